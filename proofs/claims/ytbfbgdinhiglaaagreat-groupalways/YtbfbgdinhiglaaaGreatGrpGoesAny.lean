import Derived.Test.YtbfbgdinhiglaaaGreatS17
import Derived.Test.YtbfbgdinhiglaaaGreatGrpComesAny
import Derived.Test.YtbfbgdinhiglaaaGreatS22
/- A row goes from a group of one's own: goes, walked. -/
namespace Go.Proofs.YtbfbgdinhiglaaaGreat.gr
open Go.ChangeShapes Go.WideShapes Go.ChangeAt Go.RowKit
open vl pl bt
set_option linter.unusedVariables false
set_option linter.unusedSimpArgs false
attribute [local go_sem] Oper.semAt_some
set_option maxRecDepth 100000 in
set_option maxHeartbeats 8000000 in
theorem goes_any (p : Pln) (x : PA) (W0 w : World) (hbW : Below W0.heap.size W0 w) (hp : planAt W0 p x) {g cap : Nat} {A B : List GO} {y : GO} (h1 : OG w W0.heap.size (.slice (some ⟨g, 0, none⟩) (A ++ y :: B).length cap) (A ++ y :: B)) (hbl : y.bs.length = p.aggs.length) (hal : p.aggs.length ≤ 1000) (hLN : (A ++ y :: B).length ≤ 1073741824)
    (ra : Option Addr) (rc : Nat) (r : List Cel) (hr : vl.rowAt W0 ra r) (hrl : r.length ≤ 1000) (hcol : ∀ j, j < p.aggs.length → (p.aggs.getD j (0, 0)).1 ≠ 1 → 0 ≤ (p.aggs.getD j (0, 0)).2 ∧ (p.aggs.getD j (0, 0)).2.toNat < r.length) (hN : 0 ≤ y.n ∧ y.n ≤ 1099511627776)
    (hT : ∀ j, j < y.bs.length → (y.bs.getD j (.slice none 0 0, [])).2.length ≤ 1073741824 ∧ (∀ t ∈ (y.bs.getD j (.slice none 0 0, [])).2, 0 ≤ t.2 ∧ t.2 ≤ 1099511627776) ∧ ∀ a b, a ≤ b → b < (y.bs.getD j (.slice none 0 0, [])).2.length → cmpC ((y.bs.getD j (.slice none 0 0, [])).2.getD b default).1 (r.getD (p.aggs.getD j (0, 0)).2.toNat default) < 0 → cmpC ((y.bs.getD j (.slice none 0 0, [])).2.getD a default).1 (r.getD (p.aggs.getD j (0, 0)).2.toNat default) < 0) :
    Calls Tryz.prog 83 #[planV p x, .pointer (some ⟨g, A.length * 3, none⟩), .slice ra r.length rc] w fun e w' => e = .returned (.bool (goesB p.aggs r y.bs)) ∧ (goesB p.aggs r y.bs = true → ∃ bs, bsGo p.aggs r p.aggs.length y.bs bs ∧ OG w' W0.heap.size (.slice (some ⟨g, 0, none⟩) (A ++ y :: B).length cap) (A ++ (⟨y.rv, y.row, y.n - 1, y.bv, bs⟩ : GO) :: B)) ∧ Below W0.heap.size W0 w' ∧ (∀ K, K < w.heap.size → ¬ Owned (headO (.slice (some ⟨g, 0, none⟩) (A ++ y :: B).length cap) (A ++ y :: B) :: (A ++ y :: B).flatMap GO.all) K → w'.heap[K]? = w.heap[K]?) ∧ w.heap.size ≤ w'.heap.size := by
  have HAG : Hid (∀ j, j < p.aggs.length → ∃ b off, x.a = some ⟨b, off, none⟩ ∧ W0.cell? ⟨b, off + j * 2, none⟩ = some (.int .i64 (p.aggs.getD j (0, 0)).1) ∧ W0.cell? ⟨b, off + j * 2 + 1, none⟩ = some (.int .i64 (p.aggs.getD j (0, 0)).2)) := hp.a
  have HRW : Hid (vl.rowAt W0 ra r) := hr
  have HCOL : Hid (∀ j, j < p.aggs.length → (p.aggs.getD j (0, 0)).1 ≠ 1 → 0 ≤ (p.aggs.getD j (0, 0)).2 ∧ (p.aggs.getD j (0, 0)).2.toNat < r.length) := hcol
  have HT : Hid (∀ j, j < y.bs.length → (y.bs.getD j (.slice none 0 0, [])).2.length ≤ 1073741824 ∧ (∀ t ∈ (y.bs.getD j (.slice none 0 0, [])).2, 0 ≤ t.2 ∧ t.2 ≤ 1099511627776) ∧ ∀ a b, a ≤ b → b < (y.bs.getD j (.slice none 0 0, [])).2.length → cmpC ((y.bs.getD j (.slice none 0 0, [])).2.getD b default).1 (r.getD (p.aggs.getD j (0, 0)).2.toNat default) < 0 → cmpC ((y.bs.getD j (.slice none 0 0, [])).2.getD a default).1 (r.getD (p.aggs.getD j (0, 0)).2.toNat default) < 0) := hT
  have HO : Hid (OG w W0.heap.size (.slice (some ⟨g, 0, none⟩) (A ++ y :: B).length cap) (A ++ y :: B)) := h1
  obtain ⟨E0, hE0⟩ : ∃ E, (headO (.slice (some ⟨g, 0, none⟩) (A ++ y :: B).length cap) (A ++ y :: B) :: (A ++ y :: B).flatMap GO.all) = E := ⟨_, rfl⟩
  have HE0 : Hid ((headO (.slice (some ⟨g, 0, none⟩) (A ++ y :: B).length cap) (A ++ y :: B) :: (A ++ y :: B).flatMap GO.all) = E0) := hE0
  rw [hE0]
  have hhead := h1.head
  have HGO : Hid (Owned E0 g) := by rw [← HE0.out]; exact ⟨_, List.mem_cons_self .., rfl⟩
  have hya : ∀ o ∈ y.all, o ∈ E0 := fun o ho => by rw [← HE0.out]; exact List.mem_cons_of_mem _ (List.mem_flatMap.2 ⟨y, by simp, ho⟩)
  have HBO : Hid (∀ K, y.bv.ownBlock = some K → Owned E0 K) := fun K hK => ⟨y.bagsO, hya _ (List.mem_cons_of_mem _ (List.mem_cons_self ..)), hK⟩
  have HSO : Hid (∀ b ∈ y.bs, ∀ K, b.1.ownBlock = some K → Owned E0 K) := fun b hb K hK => ⟨bagO b, hya _ (List.mem_cons_of_mem _ (List.mem_cons_of_mem _ (List.mem_map.2 ⟨b, hb, rfl⟩))), hK⟩
  have hlenA : A.length * 3 + 2 < (A ++ y :: B).length * 3 := by simp; omega
  have zc := gcells_at (A ++ y :: B) A.length (by simp)
  have eAy : (A ++ y :: B).getD A.length default = y := by simp [List.getD_eq_getElem?_getD]
  rw [eAy] at zc
  have q1 := own_cell2 hhead (A.length * 3 + 1) _ zc.2.1
  have f1 := ch.own_frozen hhead (A.length * 3 + 1)
  have hgb := ch.own_lt hhead (g := g) rfl
  have hN1 := hN.1
  have hN2 := hN.2
  have i0 : IntKind.i64.wrap (y.n - 1) = y.n - 1 := by rw [IntKind.wrap_i64]; omega
  obtain ⟨YN, hYN⟩ : ∃ z, y.n = z := ⟨_, rfl⟩
  have HYN : Hid (y.n = YN) := hYN
  obtain ⟨LN, hLNe⟩ : ∃ z, (A ++ y :: B).length = z := ⟨_, rfl⟩
  have HLN : Hid ((A ++ y :: B).length = LN) := hLNe
  obtain ⟨rl, hrle⟩ : ∃ z, r.length = z := ⟨_, rfl⟩
  have HRL : Hid (r.length = rl) := hrle
  rw [hYN] at q1 i0 hN1 hN2
  rw [hLNe] at HO hLN ⊢
  rw [hrle] at hrl HCOL ⊢
  have lne : g ≠ w.heap.size := by omega
  obtain ⟨GB, hGB⟩ : ∃ z, goesB p.aggs r y.bs = z := ⟨_, rfl⟩
  have HGB : Hid (allB y.bs.length (mayB p.aggs r y.bs) = GB) := hGB
  rw [hGB]
  clear hGB
  clear hp hr hcol hT h1 hE0 hhead hya hN hYN hLNe hrle zc eAy hlenA
  obtain ⟨kind, mode, low, high, size, limit, left, right, lkeys, rkeys, grouped, group, aggs⟩ := p
  obtain ⟨la, lc, rr, rc', lk, lkc, rk, rkc, pga, pgc, ag, ac⟩ := x
  unfold planV
  dsimp only at HAG HCOL HT hbl hal HGB ⊢
  obtain ⟨na, hna⟩ : ∃ z, aggs.length = z := ⟨_, rfl⟩
  simp only [hna] at HAG HCOL hbl hal ⊢
  clear hna
  go_enter Tryz.func83, Tryz.ntmps83
  go_wp2
  generalize hV : (World.alloc (World.setCell w _ _) _) = V
  have HV : Hid (OG V W0.heap.size (.slice (some ⟨g, 0, none⟩) LN cap) (A ++ (⟨y.rv, y.row, y.n - 1, y.bv, y.bs⟩ : GO) :: B)) := by
    rw [← hV, ← HYN.out]
    exact (HO.out.putN2 (y.n - 1)).below ((Below.refl _ _).alloc (Nat.le_refl _) _)
  have hbV : Below W0.heap.size W0 V := by rw [← hV]; exact (hbW.setCell (p := ⟨g, A.length * 3 + 1, none⟩) hgb.1 _).alloc (by simp [World.setCell]; exact hbW.size) _
  have HF0 : Hid ((∀ K, K < w.heap.size → ¬ Owned E0 K → V.heap[K]? = w.heap[K]?) ∧ w.heap.size ≤ V.heap.size) := by
    rw [← hV]
    exact ⟨fun K hK h1 => (Below.heap_alloc _ _ K (by simp [World.setCell]; omega)).trans (heap_setCell_other _ _ _ _ (fun e => h1 (by rw [e]; exact HGO.out))), by simp [World.setCell]⟩
  have HS0 : Hid (∀ b ∈ y.bs, ∀ K, b.1.ownBlock = some K → Owned E0 K ∨ w.heap.size ≤ K) := fun b hb K hK => .inl (HSO.out b hb K hK)
  have HB0 : Hid (bsGo aggs r 0 y.bs y.bs) := ⟨rfl, fun j hj => by rw [if_neg (Nat.not_lt_zero j)]⟩
  clear hV HO q1 f1 hbW lne HSO
  go_loopw [21] (fun t wr => ∃ k : Nat, k ≤ na ∧ t = .int .i64 k ∧ Below W0.heap.size W0 wr ∧ Hid ((∀ K, K < w.heap.size → ¬ Owned E0 K → wr.heap[K]? = w.heap[K]?) ∧ w.heap.size ≤ wr.heap.size) ∧ (∀ j, j < k → mayB aggs r y.bs j = true) ∧ ∃ bs, bsGo aggs r k y.bs bs ∧ Hid (∀ b ∈ bs, ∀ K, b.1.ownBlock = some K → Owned E0 K ∨ w.heap.size ≤ K) ∧ Hid (OG wr W0.heap.size (.slice (some ⟨g, 0, none⟩) LN cap) (A ++ (⟨y.rv, y.row, y.n - 1, y.bv, bs⟩ : GO) :: B))) (fun t _ => na - (intOf t).toNat)
  case atStart => exact ⟨0, Nat.zero_le _, rfl, hbV, HF0, fun j hj => absurd hj (Nat.not_lt_zero j), y.bs, HB0.out, HS0, HV⟩
  case round =>
    clear HV hbV HF0 HS0 HB0
    obtain ⟨k, hk, rfl, hbr, HF, hmay, bs, hbs, HS, HR⟩ := hrel
    have HMAY : Hid (∀ j, j < k → mayB aggs r y.bs j = true) := hmay
    clear hmay
    have HBS : Hid (bsGo aggs r k y.bs bs) := hbs
    clear hbs
    by_cases hkn : k < na
    · obtain ⟨ab, ao, ea, a0, a1⟩ := HAG.out k hkn
      subst ea
      have b0 := cell_later hbr a0
      have b1 := cell_later hbr a1
      have i1 : (0 : Int) ≤ (k : Int) := by omega
      have i2 : (k : Int) < (na : Int) := by omega
      have HC1 := HCOL.out k hkn
      have HTk := HT.out k (by rw [hbl]; exact hkn)
      obtain ⟨⟨fn, col⟩, hfc⟩ : ∃ z, aggs.getD k (0, 0) = z := ⟨_, rfl⟩
      have HFC : Hid (aggs.getD k (0, 0) = (fn, col)) := hfc
      rw [hfc] at b0 b1 HC1 HTk
      dsimp only at b0 b1 HC1 HTk
      clear a0 a1 hfc
      by_cases hfn : fn = 1
      · subst hfn
        have H9 : Hid (OG (wr.alloc (.cells #[.int .i64 1, .int .i64 col] 60)) W0.heap.size (.slice (some ⟨g, 0, none⟩) LN cap) (A ++ (⟨y.rv, y.row, y.n - 1, y.bv, bs⟩ : GO) :: B)) := HR.out.below ((Below.refl wr.heap.size wr).alloc (Nat.le_refl _) _)
        have HF1 : Hid ((∀ K, K < w.heap.size → ¬ Owned E0 K → (wr.alloc (.cells #[.int .i64 1, .int .i64 col] 60)).heap[K]? = w.heap[K]?) ∧ w.heap.size ≤ (wr.alloc (.cells #[.int .i64 1, .int .i64 col] 60)).heap.size) := ⟨fun K hK h1 => (Below.heap_alloc _ _ K (Nat.lt_of_lt_of_le hK HF.out.2)).trans (HF.out.1 K hK h1), by simp; exact Nat.le_trans HF.out.2 (Nat.le_succ _)⟩
        have HB1 : Hid (bsGo aggs r (k + 1) y.bs bs) := bsGo_same HBS.out (by rw [HFC.out])
        have HM1 : Hid (∀ j, j < k + 1 → mayB aggs r y.bs j = true) := fun j hj => by
          rcases Nat.lt_succ_iff_lt_or_eq.1 hj with h | h
          · exact HMAY.out j h
          · rw [h]; unfold mayB; rw [HFC.out]; rfl
        clear HTk HC1
        go_wp2
        go_roundw
        case rel => exact ⟨k + 1, by omega, by go_num, hbr.alloc hbr.size _, HF1, HM1.out, bs, HB1.out, HS, H9⟩
        case measure => simp [intOf]; omega
      · obtain ⟨hc0, hc1⟩ := HC1 hfn
        obtain ⟨cl, rfl⟩ := Int.eq_ofNat_of_zero_le hc0
        simp only [Int.toNat_natCast] at hc1 HTk
        obtain ⟨rb, ro, er, y1, y2, y3⟩ := HRW.out cl (by rw [HRL.out]; exact hc1)
        subst er
        obtain ⟨⟨ck, cn, cs⟩, hc⟩ : ∃ c, r.getD cl default = c := ⟨_, rfl⟩
        have HC : Hid (r.getD cl default = ⟨ck, cn, cs⟩) := hc
        rw [hc] at y1 y2 y3 HTk
        dsimp only at y1 y2 y3
        have hk2 : k < bs.length := by rw [HBS.out.1, hbl]; exact hkn
        have hb2 := HBS.out.2 k (by rw [hbl]; exact hkn)
        rw [if_neg (Nat.lt_irrefl k)] at hb2
        have HB2 : Hid ((bs.getD k (.slice none 0 0, [])).2 = (y.bs.getD k (.slice none 0 0, [])).2) := hb2
        rw [← hb2] at HTk
        obtain ⟨⟨bval, l⟩, hbdef⟩ : ∃ b, bs.getD k (.slice none 0 0, []) = b := ⟨_, rfl⟩
        have hsp : bs = bs.take k ++ (bval, l) :: bs.drop (k + 1) := by rw [← hbdef]; exact split_at bs k _ hk2
        have HBD : Hid (bs.getD k (.slice none 0 0, []) = (bval, l)) := hbdef
        rw [hbdef] at HTk
        dsimp only at HTk
        have hparts := HR.out.parts (x := (⟨y.rv, y.row, y.n - 1, y.bv, bs⟩ : GO)) (by simp)
        have hown : ownT wr W0.heap.size bval l := hparts.2.2 (bval, l) (by rw [hsp]; simp)
        have ebv := own_is hown
        obtain ⟨ta, hta⟩ : ∃ z, adOf bval = z := ⟨_, rfl⟩
        obtain ⟨tc, htc⟩ : ∃ z, cpOf bval = z := ⟨_, rfl⟩
        rw [hta, htc] at ebv
        clear hta htc
        subst ebv
        have hyb : ∃ bb bc, y.bv = .slice (some ⟨bb, 0, none⟩) na bc := by
          rcases hparts.2.1.2 with ⟨hv, h0⟩ | ⟨bb, bc, cur, hv, _⟩
          · dsimp only at h0; omega
          · exact ⟨bb, bc, by dsimp only at hv; rw [hv, HBS.out.1, hbl]⟩
        obtain ⟨bb, bc, hyb⟩ := hyb
        have HYB : Hid (y.bv = .slice (some ⟨bb, 0, none⟩) na bc) := hyb
        have HSP : Hid (bs = bs.take k ++ (.slice ta l.length tc, l) :: bs.drop (k + 1)) := hsp
        have HLW : Hid (∀ K, (Value.slice ta l.length tc).ownBlock = some K → K < wr.heap.size) := fun K hK => (ch.own_lt hown hK).2
        have HBW : Hid (bb < wr.heap.size) := (ch.own_lt hparts.2.1 (g := bb) (by dsimp only; rw [hyb]; rfl)).2
        have HBB : Hid (Owned E0 bb) := HBO.out bb (by rw [hyb]; rfl)
        have HBT : Hid (∀ K, (Value.slice ta l.length tc).ownBlock = some K → Owned E0 K ∨ w.heap.size ≤ K) := fun K hK => HS.out (.slice ta l.length tc, l) (by rw [HSP.out]; simp) K hK
        obtain ⟨hl1, hl2, hl3⟩ := HTk
        have HMO : Hid (∀ a b, a ≤ b → b < l.length → cmpC (l.getD b default).1 ⟨ck, cn, cs⟩ < 0 → cmpC (l.getD a default).1 ⟨ck, cn, cs⟩ < 0) := hl3
        have HTB : Hid (∀ t ∈ l, 0 ≤ t.2 ∧ t.2 ≤ 1099511627776) := hl2
        have hfn2 : (fn == 1) = false := by simpa using hfn
        clear hparts hown hsp hbdef hb2 hk2 hl2 hl3 hyb HC1 hc
        go_wp2
        generalize hV1 : (World.alloc wr _) = V1
        have hA : Below wr.heap.size wr V1 := by rw [← hV1]; exact (Below.refl _ _).alloc (Nat.le_refl _) _
        have HR1 : Hid (OG V1 W0.heap.size (.slice (some ⟨g, 0, none⟩) LN cap) (A ++ (⟨y.rv, y.row, y.n - 1, y.bv, bs⟩ : GO) :: B)) := HR.out.below hA
        have hbV : Below W0.heap.size W0 V1 := by rw [← hV1]; exact hbr.alloc hbr.size _
        have s0 : V1.cell? ⟨wr.heap.size, 0, none⟩ = some (.int .i64 fn) := by subst hV1; go_simp
        have s1 : V1.cell? ⟨wr.heap.size, 1, none⟩ = some (.int .i64 (cl : Int)) := by subst hV1; go_simp
        have HP1 : Hid (V1.ownsRow W0.heap.size 61 1 (.slice (some ⟨bb, 0, none⟩) na bc) bs.length (bs.map (·.1)) ∧ ownT V1 W0.heap.size (.slice ta l.length tc) l) := by
          have hp := HR1.out.parts (x := (⟨y.rv, y.row, y.n - 1, y.bv, bs⟩ : GO)) (by simp)
          refine ⟨?_, hp.2.2 (.slice ta l.length tc, l) (by rw [HSP.out]; simp)⟩
          have := hp.2.1
          dsimp only at this
          rw [HYB.out] at this
          exact this
        have g2 : V1.cell? ⟨g, A.length * 3 + 2, none⟩ = some (.slice (some ⟨bb, 0, none⟩) na bc) := by
          have hh := HR1.out.head
          have eln : LN = (A ++ (⟨y.rv, y.row, y.n - 1, y.bv, bs⟩ : GO) :: B).length := by have e := own_is hh; injection e
          rw [← eln] at hh
          have zc := (gcells_at (A ++ (⟨y.rv, y.row, y.n - 1, y.bv, bs⟩ : GO) :: B) A.length (by simp)).2.2
          have eAy : (A ++ (⟨y.rv, y.row, y.n - 1, y.bv, bs⟩ : GO) :: B).getD A.length default = (⟨y.rv, y.row, y.n - 1, y.bv, bs⟩ : GO) := by simp [List.getD_eq_getElem?_getD]
          rw [eAy] at zc
          dsimp only at zc
          have hq := own_cell2 hh _ _ zc
          rw [HYB.out] at hq
          exact hq
        have hnbs : bs.length = na := by rw [HBS.out.1, hbl]
        have t1 : V1.cell? ⟨bb, k, none⟩ = some (.slice ta l.length tc) := by
          have hh := HP1.out.1
          rw [hnbs] at hh
          refine own_cell2 hh k _ ?_
          rw [HSP.out, List.map_append, List.map_cons, List.getElem?_append_right (by rw [List.length_map, List.length_take]; omega), List.length_map, List.length_take, Nat.min_eq_left (by omega), Nat.sub_self]
          rfl
        have x1 : V1.cell? ⟨rb, ro + cl * 3, none⟩ = some (.int .i64 ck) := cell_later hbV y1
        have x2 : V1.cell? ⟨rb, ro + cl * 3 + 1, none⟩ = some (.int .i64 cn) := cell_later hbV y2
        have x3 : V1.cell? ⟨rb, ro + cl * 3 + 2, none⟩ = some (.string cs) := cell_later hbV y3
        have KF : Hid (∀ w1, Below V1.heap.size V1 w1 → Calls Tryz.prog 128 #[.slice ta l.length tc, .agg #[.int .i64 ck, .int .i64 cn, .string cs]] w1 fun e w' => e = .returned (.tuple #[.int .i64 (idxT l ⟨ck, cn, cs⟩), .bool (hasT l ⟨ck, cn, cs⟩)]) ∧ Below w1.heap.size w1 w') := fun w1 hb => find_is ta tc l ⟨ck, cn, cs⟩ w1 (by omega) (ownT_at (ch.own_below HP1.out.2 hb)).1 HMO.out
        have LOWB : Hid (rb < W0.heap.size) := World.block_lt_of_cell? _ _ y1
        have HHD : Hid (V1.ownsRow W0.heap.size 53 3 (.slice (some ⟨g, 0, none⟩) LN cap) (A ++ (⟨y.rv, y.row, y.n - 1, y.bv, bs⟩ : GO) :: B).length (gcells (A ++ (⟨y.rv, y.row, y.n - 1, y.bv, bs⟩ : GO) :: B))) := HR1.out.head
        have NT : Hid (some g ≠ (Value.slice ta l.length tc).ownBlock ∧ some bb ≠ (Value.slice ta l.length tc).ownBlock ∧ some rb ≠ (Value.slice ta l.length tc).ownBlock ∧ some wr.heap.size ≠ (Value.slice ta l.length tc).ownBlock) :=
          ⟨fun e => own_apart HHD.out HP1.out.2 (by decide) (g := g) rfl e.symm, fun e => own_apart HP1.out.1 HP1.out.2 (by decide) (g := bb) rfl e.symm, fun e => by have h1 := (ch.own_lt HP1.out.2 e.symm).1; have h2 := LOWB.out; omega, fun e => by have h1 := HLW.out _ e.symm; omega⟩
        have HNB : Hid (g ≠ bb ∧ rb ≠ bb ∧ wr.heap.size ≠ bb) := ⟨fun e => own_apart HHD.out HP1.out.1 (by decide) (g := g) rfl (by rw [e]; rfl), fun e => by have h1 := (ch.own_lt HP1.out.1 (g := bb) rfl).1; have h2 := LOWB.out; omega, fun e => by have h1 := HBW.out; omega⟩
        have hix := idx_le l ⟨ck, cn, cs⟩
        have HIX2 : Hid (hasT l ⟨ck, cn, cs⟩ = true → idxT l ⟨ck, cn, cs⟩ < l.length) := fun h => by unfold hasT at h; simp at h; exact h.1
        have HAD : Hid (subT l ⟨ck, cn, cs⟩ = if (l.getD (idxT l ⟨ck, cn, cs⟩) default).2 - 1 = 0 then l.take (idxT l ⟨ck, cn, cs⟩) ++ l.drop (idxT l ⟨ck, cn, cs⟩ + 1) else l.set (idxT l ⟨ck, cn, cs⟩) ((l.getD (idxT l ⟨ck, cn, cs⟩) default).1, (l.getD (idxT l ⟨ck, cn, cs⟩) default).2 - 1)) := rfl
        have HMK : Hid (mayB aggs r y.bs k = hasT l ⟨ck, cn, cs⟩) := by
          show mayB aggs r y.bs k = _
          unfold mayB
          rw [← HB2.out, HBD.out, HFC.out]
          dsimp only
          rw [Int.toNat_natCast, HC.out]
          simp [hfn]
        obtain ⟨ix, hixe⟩ : ∃ z, idxT l ⟨ck, cn, cs⟩ = z := ⟨_, rfl⟩
        rw [hixe] at KF hix HIX2 HAD
        obtain ⟨hh, hhe⟩ : ∃ z, hasT l ⟨ck, cn, cs⟩ = z := ⟨_, rfl⟩
        rw [hhe] at KF HIX2 HMK
        obtain ⟨n, hn⟩ : ∃ n, l.length = n := ⟨_, rfl⟩
        have HN : Hid (l.length = n) := hn
        rw [hn] at KF t1 NT hl1 hix HIX2 HLW HBT HSP HP1
        clear hn hixe hhe hV1 y1 y2 y3 b0 b1 HHD HMO
        go_region_held3 (fun w' => w'.cell? ⟨g, A.length * 3 + 2, none⟩ = some (.slice (some ⟨bb, 0, none⟩) na bc) ∧ w'.cell? ⟨bb, k, none⟩ = some (.slice ta n tc) ∧ w'.cell? ⟨rb, ro + cl * 3, none⟩ = some (.int .i64 ck) ∧ w'.cell? ⟨rb, ro + cl * 3 + 1, none⟩ = some (.int .i64 cn) ∧ w'.cell? ⟨rb, ro + cl * 3 + 2, none⟩ = some (.string cs) ∧ w'.cell? ⟨wr.heap.size, 0, none⟩ = some (.int .i64 fn) ∧ w'.cell? ⟨wr.heap.size, 1, none⟩ = some (.int .i64 (cl : Int))) (first | exact ⟨cell_later hQ1 g2, cell_later hQ1 t1, cell_later hQ1 x1, cell_later hQ1 x2, cell_later hQ1 x3, cell_later hQ1 s0, cell_later hQ1 s1⟩ | go_keep)
          (first | (go_at_call 128; refine (KF.out _ (Below.refl _ _).drew).mono ?_; rintro e y9 ⟨rfl, hy9⟩; have hQ1 : Below V1.heap.size V1 y9 := (Below.refl _ _).drew.trans hy9))
        replace g2 := cell_later hQ1 g2
        replace t1 := cell_later hQ1 t1
        replace x1 := cell_later hQ1 x1
        replace x2 := cell_later hQ1 x2
        replace x3 := cell_later hQ1 x3
        replace s0 := cell_later hQ1 s0
        replace s1 := cell_later hQ1 s1
        have hbY : Below W0.heap.size W0 y9 := hbV.trans (hQ1.mono hbV.size)
        have HRY : Hid (OG y9 W0.heap.size (.slice (some ⟨g, 0, none⟩) LN cap) (A ++ (⟨y.rv, y.row, y.n - 1, y.bv, bs⟩ : GO) :: B)) := HR1.out.below hQ1
        have HFY : Hid ((∀ K, K < w.heap.size → ¬ Owned E0 K → y9.heap[K]? = w.heap[K]?) ∧ w.heap.size ≤ y9.heap.size) := ⟨fun K hK h1 => (hQ1.block K (Nat.lt_of_lt_of_le hK (Nat.le_trans HF.out.2 hA.size))).trans ((hA.block K (Nat.lt_of_lt_of_le hK HF.out.2)).trans (HF.out.1 K hK h1)), Nat.le_trans HF.out.2 (Nat.le_trans hA.size hQ1.size)⟩
        have HPY : Hid (y9.ownsRow W0.heap.size 61 1 (.slice (some ⟨bb, 0, none⟩) na bc) bs.length (bs.map (·.1)) ∧ ownT y9 W0.heap.size (.slice ta n tc) l) := ⟨ch.own_below HP1.out.1 hQ1, ch.own_below HP1.out.2 hQ1⟩
        have j0 : (0 : Int) ≤ (ix : Int) := by omega
        clear KF
        cases hh with
        | false =>
          have HGF : Hid (false = GB) := by show _ = _; rw [← HGB.out]; exact (allB_no (by rw [hbl]; exact hkn) HMK.out).symm
          go_wp2
          go_ret
          exact ⟨ret_bool HGF.out, (fun h => by rw [← HGF.out] at h; cases h), hbY, HFY.out.1, HFY.out.2⟩
        | true =>
          have hlt : ix < n := HIX2.out rfl
          have hts : ∃ tb, ta = some ⟨tb, 0, none⟩ := by
            rcases HPY.out.2.2 with ⟨hv, h0⟩ | ⟨tb, cap', cur, hv, _⟩
            · rw [HN.out] at h0; omega
            · injection hv with e1 _ _; exact ⟨tb, e1⟩
          obtain ⟨tb, rfl⟩ := hts
          have hixl : ix < l.length := by rw [HN.out]; exact hlt
          have hmem : l.getD ix default ∈ l := by rw [List.getD_eq_getElem?_getD, List.getElem?_eq_getElem hixl]; exact List.getElem_mem hixl
          obtain ⟨hb1, hb2⟩ := HTB.out _ hmem
          have zt := (talCells_at l ix hixl).2.2.2
          obtain ⟨⟨tce, tn⟩, ht⟩ : ∃ t, l.getD ix default = t := ⟨_, rfl⟩
          rw [ht] at hb1 hb2 zt HAD
          dsimp only at hb1 hb2 zt HAD
          have HTe : Hid (l.getD ix default = (tce, tn)) := ht
          have hot := HPY.out.2
          unfold ownT at hot
          rw [HN.out] at hot
          have m3 : y9.cell? ⟨tb, ix * 4 + 3, none⟩ = some (.int .i64 tn) := own_cell2 hot _ _ zt
          have fz := ch.own_frozen hot (ix * 4 + 3)
          have htl := ch.own_lt hot (g := tb) rfl
          have iw : IntKind.i64.wrap (tn - 1) = tn - 1 := by rw [IntKind.wrap_i64]; omega
          have HM1 : Hid (∀ j, j < k + 1 → mayB aggs r y.bs j = true) := fun j hj => by
            rcases Nat.lt_succ_iff_lt_or_eq.1 hj with h | h
            · exact HMAY.out j h
            · rw [h]; exact HMK.out
          have H9 : Hid (OG (y9.setCell ⟨tb, ix * 4 + 3, none⟩ (.int .i64 (tn - 1))) W0.heap.size (.slice (some ⟨g, 0, none⟩) LN cap) (A ++ (⟨y.rv, y.row, y.n - 1, y.bv, bs.take k ++ (.slice (some ⟨tb, 0, none⟩) n tc, l.set ix (tce, tn - 1)) :: bs.drop (k + 1)⟩ : GO) :: B)) := by
            have h := HRY.out.putT (x := (⟨y.rv, y.row, y.n - 1, y.bv, bs⟩ : GO)) HSP.out ix hixl (tn - 1)
            rw [HTe.out] at h
            exact h
          have HB0 : Hid (∀ v, bsGo aggs r (k + 1) y.bs (bs.take k ++ (v, subT l ⟨ck, cn, cs⟩) :: bs.drop (k + 1))) := fun v => by
            have h := bsGo_next HBS.out (by rw [hbl]; exact hkn) (by rw [HFC.out]; exact hfn) v
            rw [HBD.out, HFC.out] at h
            dsimp only at h
            rw [Int.toNat_natCast, HC.out] at h
            exact h
          have HS0 : Hid (∀ v' l', (∀ K, v'.ownBlock = some K → Owned E0 K ∨ w.heap.size ≤ K) → ∀ b ∈ bs.take k ++ (v', l') :: bs.drop (k + 1), ∀ K, b.1.ownBlock = some K → Owned E0 K ∨ w.heap.size ≤ K) := fun v' l' hv b hb K hK => by
            rcases List.mem_append.1 hb with h | h
            · exact HS.out b (List.mem_of_mem_take h) K hK
            · rcases List.mem_cons.1 h with h | h
              · rw [h] at hK; exact hv K hK
              · exact HS.out b (List.mem_of_mem_drop h) K hK
          have HF1 : Hid ((∀ K, K < w.heap.size → ¬ Owned E0 K → (y9.setCell ⟨tb, ix * 4 + 3, none⟩ (.int .i64 (tn - 1))).heap[K]? = w.heap[K]?) ∧ w.heap.size ≤ (y9.setCell ⟨tb, ix * 4 + 3, none⟩ (.int .i64 (tn - 1))).heap.size) := ⟨fun K hK h1 => (heap_setCell_other _ _ _ _ (fun e => by
            rcases HBT.out tb rfl with h2 | h2
            · exact h1 (by rw [e]; exact h2)
            · dsimp only at e; omega)).trans (HFY.out.1 K hK h1), by simp [World.setCell]; exact HFY.out.2⟩
          have j1 : (ix : Int) < (n : Int) := by omega
          have nt1 : g ≠ tb := fun e => NT.out.1 (by rw [e]; rfl)
          have nt2 : bb ≠ tb := fun e => NT.out.2.1 (by rw [e]; rfl)
          have hbS : Below W0.heap.size W0 (y9.setCell ⟨tb, ix * 4 + 3, none⟩ (.int .i64 (tn - 1))) := hbY.setCell (p := ⟨tb, ix * 4 + 3, none⟩) htl.1 _
          clear hb1 hb2 zt hot hmem ht
          by_cases hz : tn - 1 = 0
          · have hz2 : (tn - 1 == 0) = true := by simpa using hz
            rw [if_pos hz] at HAD
            rw [hz] at H9 HF1 hbS
            obtain ⟨m, hm⟩ : ∃ m, n = ix + 1 + m := ⟨n - ix - 1, by omega⟩
            have HM : Hid (n = ix + 1 + m) := hm
            clear hm
            have u1 : g < y9.heap.size := World.block_lt_of_cell? _ _ g2
            have u2 : bb < y9.heap.size := World.block_lt_of_cell? _ _ t1
            go_wp2
            have g3 : (y9.setCell ⟨tb, ix * 4 + 3, none⟩ (.int .i64 0)).cell? ⟨g, A.length * 3 + 2, none⟩ = some (.slice (some ⟨bb, 0, none⟩) na bc) := by go_simp
            have t3 : (y9.setCell ⟨tb, ix * 4 + 3, none⟩ (.int .i64 0)).cell? ⟨bb, k, none⟩ = some (.slice (some ⟨tb, 0, none⟩) n tc) := by go_simp
            generalize (y9.setCell ⟨tb, ix * 4 + 3, none⟩ (.int .i64 0)) = V2 at H9 HF1 hbS g3 t3 ⊢
            clear g2 t1 m3 fz x1 x2 x3 s0 s1 u1 u2
            have hp2 := H9.out.parts (x := (⟨y.rv, y.row, y.n - 1, y.bv, bs.take k ++ (.slice (some ⟨tb, 0, none⟩) n tc, l.set ix (tce, 0)) :: bs.drop (k + 1)⟩ : GO)) (by simp)
            have htk : (bs.take k).length = k := by rw [List.length_take]; omega
            have hlen2 : (bs.take k ++ (Value.slice (some ⟨tb, 0, none⟩) n tc, l.set ix (tce, 0)) :: bs.drop (k + 1)).length = na := by simp; omega
            have hbg := hp2.2.1
            dsimp only at hbg
            rw [HYB.out, hlen2] at hbg
            have pf := ch.own_frozen hbg k
            have hbl2 := ch.own_lt hbg (g := bb) rfl
            have hol := hp2.2.2 (.slice (some ⟨tb, 0, none⟩) n tc, l.set ix (tce, 0)) (by simp)
            have HOL : Hid (V2.ownsRow W0.heap.size 82 4 (.slice (some ⟨tb, 0, none⟩) (ix + 1 + m) tc) (ix + 1 + m) (talCells (l.take ix) ++ [.int .i64 tce.k, .int .i64 tce.n, .string tce.s, .int .i64 0] ++ talCells (l.drop (ix + 1)))) := by
              have h := hol
              unfold ownT at h
              dsimp only at h
              rw [List.length_set, HN.out, HM.out] at h
              have e : l.set ix (tce, 0) = l.take ix ++ (tce, 0) :: l.drop (ix + 1) := by rw [List.set_eq_take_append_cons_drop, if_pos hixl]
              rw [e, talCells_app2] at h
              have e2 : talCells ((tce, (0 : Int)) :: l.drop (ix + 1)) = [.int .i64 tce.k, .int .i64 tce.n, .string tce.s, .int .i64 0] ++ talCells (l.drop (ix + 1)) := rfl
              rw [e2, ← List.append_assoc] at h
              exact h
            have KD : Hid (∀ w1, Below V2.heap.size V2 w1 → Calls Tryz.prog 129 #[.slice (some ⟨tb, 0, none⟩) n tc, .int .i64 ix, .int .i64 ((ix : Int) + 1)] w1 fun e w' => e = .returned (.slice (some ⟨tb, 0, none⟩) (ix + m) tc) ∧ ownT w' W0.heap.size (.slice (some ⟨tb, 0, none⟩) (ix + m) tc) (l.take ix ++ l.drop (ix + 1)) ∧ (∀ b, b ≠ tb → w'.heap[b]? = w1.heap[b]?) ∧ w'.heap.size = w1.heap.size ∧ Below tb w1 w') := fun w1 hb => by
              have h := delT_any tb m tc ix (talCells (l.take ix)) [.int .i64 tce.k, .int .i64 tce.n, .string tce.s, .int .i64 0] (talCells (l.drop (ix + 1))) W0.heap.size w1 (ch.own_below HOL.out hb) (by rw [talLen, List.length_take, Nat.min_eq_left (by omega)]) rfl (by have := HM.out; omega) (tal_one _)
              rw [← HM.out] at h
              refine h.mono ?_
              rintro e w' ⟨rfl, k1, k2, k3, k4⟩
              refine ⟨rfl, ?_, k2, k3, k4⟩
              have hll : (l.take ix ++ l.drop (ix + 1)).length = ix + m := by have h1 := HM.out; have h2 := HN.out; rw [List.length_append, List.length_take, List.length_drop]; omega
              unfold ownT
              rw [hll, talCells_app2]
              exact k1
            have wi : IntKind.i64.wrap ((ix : Int) + 1) = (ix : Int) + 1 := by rw [IntKind.wrap_i64]; omega
            have u1 : g < V2.heap.size := World.block_lt_of_cell? _ _ g3
            have u2 : bb < V2.heap.size := World.block_lt_of_cell? _ _ t3
            have n1 : g ≠ bb := HNB.out.1
            clear hp2 hbg hol
            refine wp_region_held_drew (S := (fun w' => w'.cell? ⟨g, A.length * 3 + 2, none⟩ = some (.slice (some ⟨bb, 0, none⟩) na bc))) (by kernel_rfl) (by go_simp) (fun hHeld => ?_)
            refine takeH (v := ?_) 0 (some 73) rfl (by kernel_rfl) (by kernel_rfl) (by kernel_rfl) (fun _ _ _ h => h) rfl rfl ?_ hHeld ?_
            rotate_left
            · intro w' hSw; (try dsimp only at hSw); first | (go_simp; done) | (go_simp; with_reducible rfl)
            try simp only [Act.put, List.setIfInBounds_toArray, List.set_cons_zero, List.set_cons_succ]
            refine takeH (v := ?_) 1 (some 74) rfl (by kernel_rfl) (by kernel_rfl) (by kernel_rfl) (fun _ _ _ h => h) rfl rfl ?_ hHeld ?_
            rotate_left
            · intro w' hSw; (try dsimp only at hSw); first | (go_simp; done) | (go_simp; with_reducible rfl)
            try simp only [Act.put, List.setIfInBounds_toArray, List.set_cons_zero, List.set_cons_succ]
            refine takeH (v := ?_) 2 (some 75) rfl (by kernel_rfl) (by kernel_rfl) (by kernel_rfl) (fun _ _ _ h => h) rfl rfl ?_ hHeld ?_
            rotate_left
            · intro w' hSw; (try dsimp only at hSw); first | (go_simp; done) | (go_simp; with_reducible rfl)
            try simp only [Act.put, List.setIfInBounds_toArray, List.set_cons_zero, List.set_cons_succ]
            refine takeH (v := ?_) 3 (some 76) rfl (by kernel_rfl) (by kernel_rfl) (by kernel_rfl) (fun _ _ _ h => h) rfl rfl ?_ hHeld ?_
            rotate_left
            · intro w' hSw; (try dsimp only at hSw); first | (go_simp; done) | (go_simp; with_reducible rfl)
            try simp only [Act.put, List.setIfInBounds_toArray, List.set_cons_zero, List.set_cons_succ]
            refine takeH (v := ?_) 4 (some 77) rfl (by kernel_rfl) (by kernel_rfl) (by kernel_rfl) (fun _ _ _ h => h) rfl rfl ?_ hHeld ?_
            rotate_left
            · intro w' hSw; (try dsimp only at hSw); first | (go_simp; done) | (go_simp; with_reducible rfl)
            try simp only [Act.put, List.setIfInBounds_toArray, List.set_cons_zero, List.set_cons_succ]
            refine takeH (v := ?_) 5 (some 78) rfl (by kernel_rfl) (by kernel_rfl) (by kernel_rfl) (fun _ _ _ h => h) rfl rfl ?_ hHeld ?_
            rotate_left
            · intro w' hSw; (try dsimp only at hSw); first | (go_simp; done) | (go_simp; with_reducible rfl)
            try simp only [Act.put, List.setIfInBounds_toArray, List.set_cons_zero, List.set_cons_succ]
            refine takeH (v := ?_) 6 (some 79) rfl (by kernel_rfl) (by kernel_rfl) (by kernel_rfl) (fun _ _ _ h => h) rfl rfl ?_ hHeld ?_
            rotate_left
            · intro w' hSw; (try dsimp only at hSw); first | (go_simp; done) | (go_simp; with_reducible rfl)
            try simp only [Act.put, List.setIfInBounds_toArray, List.set_cons_zero, List.set_cons_succ]
            refine takeH (v := ?_) 7 (some 80) rfl (by kernel_rfl) (by kernel_rfl) (by kernel_rfl) (fun _ _ _ h => h) rfl rfl ?_ hHeld ?_
            rotate_left
            · intro w' hSw; (try dsimp only at hSw); first | (go_simp; done) | (go_simp; with_reducible rfl)
            try simp only [Act.put, List.setIfInBounds_toArray, List.set_cons_zero, List.set_cons_succ]
            refine takeH (v := ?_) 8 (some 81) rfl (by kernel_rfl) (by kernel_rfl) (by kernel_rfl) (fun _ _ _ h => h) rfl rfl ?_ hHeld ?_
            rotate_left
            · intro w' hSw; (try dsimp only at hSw); first | (go_simp; done) | (go_simp; with_reducible rfl)
            try simp only [Act.put, List.setIfInBounds_toArray, List.set_cons_zero, List.set_cons_succ]
            refine takeH (v := ?_) 9 (some 82) rfl (by kernel_rfl) (by kernel_rfl) (by kernel_rfl) (fun _ _ _ h => h) rfl rfl ?_ hHeld ?_
            rotate_left
            · intro w' hSw; (try dsimp only at hSw); first | (go_simp; done) | (go_simp; with_reducible rfl)
            try simp only [Act.put, List.setIfInBounds_toArray, List.set_cons_zero, List.set_cons_succ]
            refine takeH (v := ?_) 10 (some 83) rfl (by kernel_rfl) (by kernel_rfl) (by kernel_rfl) (fun _ _ _ h => h) rfl rfl ?_ hHeld ?_
            rotate_left
            · intro w' hSw; (try dsimp only at hSw); first | (go_simp; done) | (go_simp; with_reducible rfl)
            try simp only [Act.put, List.setIfInBounds_toArray, List.set_cons_zero, List.set_cons_succ]
            refine takeH (v := ?_) 12 (some 85) rfl (by kernel_rfl) (by kernel_rfl) (by kernel_rfl) (fun _ _ _ h => h) rfl rfl ?_ hHeld ?_
            rotate_left
            · intro w' hSw; (try dsimp only at hSw); first | (go_simp; done) | (go_simp; with_reducible rfl)
            try simp only [Act.put, List.setIfInBounds_toArray, List.set_cons_zero, List.set_cons_succ]
            refine takeH (v := ?_) 13 (some 86) rfl (by kernel_rfl) (by kernel_rfl) (by kernel_rfl) (fun _ _ _ h => h) rfl rfl ?_ hHeld ?_
            rotate_left
            · intro w' hSw; (try dsimp only at hSw); first | (go_simp; done) | (go_simp; with_reducible rfl)
            try simp only [Act.put, List.setIfInBounds_toArray, List.set_cons_zero, List.set_cons_succ]
            refine takeH (v := ?_) 14 (some 87) rfl (by kernel_rfl) (by kernel_rfl) (by kernel_rfl) (fun _ _ _ h => h) rfl rfl ?_ hHeld ?_
            rotate_left
            · intro w' hSw; (try dsimp only at hSw); first | (go_simp; done) | (go_simp; with_reducible rfl)
            try simp only [Act.put, List.setIfInBounds_toArray, List.set_cons_zero, List.set_cons_succ]
            refine wpAnyH_ready (rs := [11]) (by kernel_rfl) (by simp) ?_
            refine AllReadyH.cons rfl (fun K hK => ?_) AllReadyH.nil
            go_simp
            refine hK.out _ _ hHeld (fun hHeld => ?_)
            clear hK K
            try simp only [Act.put, List.setIfInBounds_toArray, List.set_cons_zero, List.set_cons_succ]
            refine wpAnyH_ready (rs := [15]) (by kernel_rfl) (by simp) ?_
            refine AllReadyH.cons rfl (fun K hK => ?_) AllReadyH.nil
            go_simp
            refine (KD.out _ (Below.refl _ _).drew).mono ?_
            rintro e w2 ⟨rfl, hown9, hblk9, hsz9, hbel9⟩
            have k1 : w2.cell? ⟨g, A.length * 3 + 2, none⟩ = some (.slice (some ⟨bb, 0, none⟩) na bc) := (World.cell?_of_block (w := V2.drew) (hblk9 g nt1)).trans g3
            have k2 : w2.cell? ⟨bb, k, none⟩ = some (.slice (some ⟨tb, 0, none⟩) n tc) := (World.cell?_of_block (w := V2.drew) (hblk9 bb nt2)).trans t3
            have pf9 : w2.frozen? ⟨bb, k, none⟩ = false := (World.frozen?_of_block (w := V2.drew) (hblk9 bb nt2)).trans pf
            go_wp2_with fail
            refine hK.out _ _ k1 (fun hHeld => ?_)
            clear hK K
            try simp only [Act.put, List.setIfInBounds_toArray, List.set_cons_zero, List.set_cons_succ]
            refine wpAnyH_ready (rs := [16]) (by kernel_rfl) (by simp) ?_
            refine AllReadyH.cons rfl (fun K hK => ?_) AllReadyH.nil
            go_simp
            refine hK.out _ _ hHeld (fun hHeld => ?_)
            clear hK K
            try simp only [Act.put, List.setIfInBounds_toArray, List.set_cons_zero, List.set_cons_succ]
            refine wpAnyH_ready (rs := [17]) (by kernel_rfl) (by simp) ?_
            refine AllReadyH.cons rfl (fun K hK => ?_) AllReadyH.nil
            go_simp
            refine hK.out _ _ (by go_simp) (fun hHeld => ?_)
            clear hK K hHeld
            try simp only [Act.put, List.setIfInBounds_toArray, List.set_cons_zero, List.set_cons_succ]
            refine wpAnyH_done (by kernel_rfl) ?_ _
            have H10 : Hid (OG (w2.setCell ⟨bb, k, none⟩ (.slice (some ⟨tb, 0, none⟩) (ix + m) tc)) W0.heap.size (.slice (some ⟨g, 0, none⟩) LN cap) (A ++ (⟨y.rv, y.row, y.n - 1, y.bv, bs.take k ++ (.slice (some ⟨tb, 0, none⟩) (ix + m) tc, subT l ⟨ck, cn, cs⟩) :: bs.drop (k + 1)⟩ : GO) :: B)) := by
              have h := (H9.out.below (Below.refl _ _).drew).putB (w2 := w2) (x := (⟨y.rv, y.row, y.n - 1, y.bv, bs.take k ++ (.slice (some ⟨tb, 0, none⟩) n tc, l.set ix (tce, 0)) :: bs.drop (k + 1)⟩ : GO)) (b' := (.slice (some ⟨tb, 0, none⟩) (ix + m) tc, l.take ix ++ l.drop (ix + 1))) rfl HYB.out (by rw [hsz9]; exact Nat.le_refl _) (fun b _ hb => hblk9 b (fun e => hb (by rw [e]; rfl))) hown9 (fun g hg => .inl hg)
              rw [htk] at h
              rw [HAD.out]
              exact h
            have hbE : Below W0.heap.size W0 (w2.setCell ⟨bb, k, none⟩ (.slice (some ⟨tb, 0, none⟩) (ix + m) tc)) := (hbS.drew.trans (hbel9.mono htl.1)).setCell (p := ⟨bb, k, none⟩) hbl2.1 _
            have HFE : Hid ((∀ K, K < w.heap.size → ¬ Owned E0 K → (w2.setCell ⟨bb, k, none⟩ (.slice (some ⟨tb, 0, none⟩) (ix + m) tc)).heap[K]? = w.heap[K]?) ∧ w.heap.size ≤ (w2.setCell ⟨bb, k, none⟩ (.slice (some ⟨tb, 0, none⟩) (ix + m) tc)).heap.size) := ⟨fun K hK h1 => by
              rw [heap_setCell_other _ _ _ _ (fun e => h1 (by rw [e]; exact HBB.out)), hblk9 K (fun e => by
                rcases HBT.out tb rfl with h2 | h2
                · exact h1 (by rw [e]; exact h2)
                · omega)]
              exact HF1.out.1 K hK h1, by simp [World.setCell]; rw [hsz9]; exact HF1.out.2⟩
            clear hown9 hblk9 hbel9 k1 k2 pf9
            go_wp2
            go_roundw
            case rel => exact ⟨k + 1, by omega, by go_num, hbE, HFE, HM1.out, _, HB0.out _, HS0.out (.slice (some ⟨tb, 0, none⟩) (ix + m) tc) _ (fun K hK => HBT.out K hK), H10⟩
            case measure => simp [intOf]; omega
          · have hz2 : (tn - 1 == 0) = false := by simpa using hz
            have H10 : Hid (OG (y9.setCell ⟨tb, ix * 4 + 3, none⟩ (.int .i64 (tn - 1))) W0.heap.size (.slice (some ⟨g, 0, none⟩) LN cap) (A ++ (⟨y.rv, y.row, y.n - 1, y.bv, bs.take k ++ (.slice (some ⟨tb, 0, none⟩) n tc, subT l ⟨ck, cn, cs⟩) :: bs.drop (k + 1)⟩ : GO) :: B)) := by
              rw [HAD.out, if_neg hz]; exact H9.out
            go_wp2
            go_roundw
            case rel => exact ⟨k + 1, by omega, by go_num, hbS, HF1, HM1.out, _, HB0.out _, HS0.out _ _ HBT.out, H10⟩
            case measure => simp [intOf]; omega
    · have hke : k = na := by omega
      subst hke
      have HE : Hid (bsGo aggs r k y.bs bs) := HBS.out
      have HGT : Hid (true = GB) := by show _ = _; rw [← HGB.out]; exact (allB_iff.2 (fun j hj => HMAY.out j (by rw [hbl] at hj; exact hj))).symm
      go_wp2
      go_ret
      exact ⟨ret_bool HGT.out, fun _ => ⟨bs, HE.out, HR.out⟩, hbr, HF.out.1, HF.out.2⟩
end Go.Proofs.YtbfbgdinhiglaaaGreat.gr
