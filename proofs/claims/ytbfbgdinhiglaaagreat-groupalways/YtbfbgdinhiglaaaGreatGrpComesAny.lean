import Derived.Test.YtbfbgdinhiglaaaGreatS17
import Derived.Test.YtbfbgdinhiglaaaGreatS22
/- A row comes to a group of one's own: comes, walked. -/
namespace Go.Proofs.YtbfbgdinhiglaaaGreat.gr
open Go.ChangeShapes Go.WideShapes Go.ChangeAt Go.RowKit
open vl pl bt
set_option linter.unusedVariables false
set_option linter.unusedSimpArgs false
attribute [local go_sem] Oper.semAt_some
theorem OG.putN2 {w : World} {base g LN cap : Nat} {A B : List GO} {x : GO} (h : OG w base (.slice (some ⟨g, 0, none⟩) LN cap) (A ++ x :: B)) (M : Int) :
    OG (w.setCell ⟨g, A.length * 3 + 1, none⟩ (.int .i64 M)) base (.slice (some ⟨g, 0, none⟩) LN cap) (A ++ { x with n := M } :: B) := by
  have e : LN = (A ++ x :: B).length := by
    have e := own_is h.head
    injection e
  subst e
  have := h.putN M
  rw [show (A ++ { x with n := M } :: B).length = (A ++ x :: B).length by simp] at this
  exact this
theorem own_cell2 {w : World} {base : Nat} {e : TypeId} {size n cap g : Nat} {xs : List Value} (h : w.ownsRow base e size (.slice (some ⟨g, 0, none⟩) n cap) n xs) (j : Nat) (u : Value) (hu : xs[j]? = some u) : w.cell? ⟨g, j, none⟩ = some u := by
  have := World.ownsRow.cells h (g := g) rfl j u hu
  rwa [add_off, Nat.zero_add] at this
set_option maxRecDepth 100000 in
set_option maxHeartbeats 8000000 in
theorem comes_any (p : Pln) (x : PA) (W0 w : World) (hbW : Below W0.heap.size W0 w) (hp : planAt W0 p x) {g cap : Nat} {A B : List GO} {y : GO} (h1 : OG w W0.heap.size (.slice (some ⟨g, 0, none⟩) (A ++ y :: B).length cap) (A ++ y :: B)) (hbl : y.bs.length = p.aggs.length) (hal : p.aggs.length ≤ 1000) (hLN : (A ++ y :: B).length ≤ 1073741824)
    (ra : Option Addr) (rc : Nat) (r : List Cel) (hr : vl.rowAt W0 ra r) (hrl : r.length ≤ 1000) (hcol : ∀ j, j < p.aggs.length → (p.aggs.getD j (0, 0)).1 ≠ 1 → 0 ≤ (p.aggs.getD j (0, 0)).2 ∧ (p.aggs.getD j (0, 0)).2.toNat < r.length) (hN : 0 ≤ y.n ∧ y.n ≤ 1099511627776)
    (hT : ∀ j, j < y.bs.length → (y.bs.getD j (.slice none 0 0, [])).2.length ≤ 1073741824 ∧ (∀ t ∈ (y.bs.getD j (.slice none 0 0, [])).2, 0 ≤ t.2 ∧ t.2 ≤ 1099511627776) ∧ ∀ a b, a ≤ b → b < (y.bs.getD j (.slice none 0 0, [])).2.length → cmpC ((y.bs.getD j (.slice none 0 0, [])).2.getD b default).1 (r.getD (p.aggs.getD j (0, 0)).2.toNat default) < 0 → cmpC ((y.bs.getD j (.slice none 0 0, [])).2.getD a default).1 (r.getD (p.aggs.getD j (0, 0)).2.toNat default) < 0) :
    Calls Tryz.prog 86 #[planV p x, .pointer (some ⟨g, A.length * 3, none⟩), .slice ra r.length rc] w fun e w' => e = .returned (.tuple #[]) ∧ (∃ bs, bsAt p.aggs r p.aggs.length y.bs bs ∧ OG w' W0.heap.size (.slice (some ⟨g, 0, none⟩) (A ++ y :: B).length cap) (A ++ (⟨y.rv, y.row, y.n + 1, y.bv, bs⟩ : GO) :: B)) ∧ Below W0.heap.size W0 w' ∧ (∀ K, K < w.heap.size → ¬ Owned (headO (.slice (some ⟨g, 0, none⟩) (A ++ y :: B).length cap) (A ++ y :: B) :: (A ++ y :: B).flatMap GO.all) K → w'.heap[K]? = w.heap[K]?) ∧ w.heap.size ≤ w'.heap.size := by
  have HAG : Hid (∀ j, j < p.aggs.length → ∃ b off, x.a = some ⟨b, off, none⟩ ∧ W0.cell? ⟨b, off + j * 2, none⟩ = some (.int .i64 (p.aggs.getD j (0, 0)).1) ∧ W0.cell? ⟨b, off + j * 2 + 1, none⟩ = some (.int .i64 (p.aggs.getD j (0, 0)).2)) := hp.a
  have HRW : Hid (vl.rowAt W0 ra r) := hr
  have HCOL : Hid (∀ j, j < p.aggs.length → (p.aggs.getD j (0, 0)).1 ≠ 1 → 0 ≤ (p.aggs.getD j (0, 0)).2 ∧ (p.aggs.getD j (0, 0)).2.toNat < r.length) := hcol
  have HT : Hid (∀ j, j < y.bs.length → (y.bs.getD j (.slice none 0 0, [])).2.length ≤ 1073741824 ∧ (∀ t ∈ (y.bs.getD j (.slice none 0 0, [])).2, 0 ≤ t.2 ∧ t.2 ≤ 1099511627776) ∧ ∀ a b, a ≤ b → b < (y.bs.getD j (.slice none 0 0, [])).2.length → cmpC ((y.bs.getD j (.slice none 0 0, [])).2.getD b default).1 (r.getD (p.aggs.getD j (0, 0)).2.toNat default) < 0 → cmpC ((y.bs.getD j (.slice none 0 0, [])).2.getD a default).1 (r.getD (p.aggs.getD j (0, 0)).2.toNat default) < 0) := hT
  have HO : Hid (OG w W0.heap.size (.slice (some ⟨g, 0, none⟩) (A ++ y :: B).length cap) (A ++ y :: B)) := h1
  obtain ⟨E0, hE0⟩ : ∃ E, (headO (.slice (some ⟨g, 0, none⟩) (A ++ y :: B).length cap) (A ++ y :: B) :: (A ++ y :: B).flatMap GO.all) = E := ⟨_, rfl⟩
  have HE0 : Hid ((headO (.slice (some ⟨g, 0, none⟩) (A ++ y :: B).length cap) (A ++ y :: B) :: (A ++ y :: B).flatMap GO.all) = E0) := hE0
  rw [hE0]
  have hhead := h1.head
  have HGO : Hid (Owned E0 g) := by rw [← HE0.out]; exact ⟨_, List.mem_cons_self .., rfl⟩
  have hya : ∀ o ∈ y.all, o ∈ E0 := fun o ho => by rw [← HE0.out]; exact List.mem_cons_of_mem _ (List.mem_flatMap.2 ⟨y, by simp, ho⟩)
  have HBO : Hid (∀ K, y.bv.ownBlock = some K → Owned E0 K) := fun K hK => ⟨y.bagsO, hya _ (List.mem_cons_of_mem _ (List.mem_cons_self ..)), hK⟩
  have HSO : Hid (∀ b ∈ y.bs, ∀ K, b.1.ownBlock = some K → Owned E0 K) := fun b hb K hK => ⟨bagO b, hya _ (List.mem_cons_of_mem _ (List.mem_cons_of_mem _ (List.mem_map.2 ⟨b, hb, rfl⟩))), hK⟩
  have hlenA : A.length * 3 + 2 < (A ++ y :: B).length * 3 := by simp; omega
  have zc := gcells_at (A ++ y :: B) A.length (by simp)
  have eAy : (A ++ y :: B).getD A.length default = y := by simp [List.getD_eq_getElem?_getD]
  rw [eAy] at zc
  have q1 := own_cell2 hhead (A.length * 3 + 1) _ zc.2.1
  have f1 := ch.own_frozen hhead (A.length * 3 + 1)
  have hgb := ch.own_lt hhead (g := g) rfl
  have hN1 := hN.1
  have hN2 := hN.2
  have i0 : IntKind.i64.wrap (y.n + 1) = y.n + 1 := by rw [IntKind.wrap_i64]; omega
  obtain ⟨YN, hYN⟩ : ∃ z, y.n = z := ⟨_, rfl⟩
  have HYN : Hid (y.n = YN) := hYN
  obtain ⟨LN, hLNe⟩ : ∃ z, (A ++ y :: B).length = z := ⟨_, rfl⟩
  have HLN : Hid ((A ++ y :: B).length = LN) := hLNe
  obtain ⟨rl, hrle⟩ : ∃ z, r.length = z := ⟨_, rfl⟩
  have HRL : Hid (r.length = rl) := hrle
  rw [hYN] at q1 i0 hN1 hN2
  rw [hLNe] at HO hLN ⊢
  rw [hrle] at hrl HCOL ⊢
  have lne : g ≠ w.heap.size := by omega
  clear hp hr hcol hT h1 hE0 hhead hya hN hYN hLNe hrle zc eAy hlenA
  obtain ⟨kind, mode, low, high, size, limit, left, right, lkeys, rkeys, grouped, group, aggs⟩ := p
  obtain ⟨la, lc, rr, rc', lk, lkc, rk, rkc, pga, pgc, ag, ac⟩ := x
  unfold planV
  dsimp only at HAG HCOL HT hbl hal ⊢
  obtain ⟨na, hna⟩ : ∃ z, aggs.length = z := ⟨_, rfl⟩
  simp only [hna] at HAG HCOL hbl hal ⊢
  clear hna
  go_enter Tryz.func86, Tryz.ntmps86
  go_wp2
  generalize hV : (World.alloc (World.setCell w _ _) _) = V
  have HV : Hid (OG V W0.heap.size (.slice (some ⟨g, 0, none⟩) LN cap) (A ++ (⟨y.rv, y.row, y.n + 1, y.bv, y.bs⟩ : GO) :: B)) := by
    rw [← hV, ← HYN.out]
    exact (HO.out.putN2 (y.n + 1)).below ((Below.refl _ _).alloc (Nat.le_refl _) _)
  have hbV : Below W0.heap.size W0 V := by rw [← hV]; exact (hbW.setCell (p := ⟨g, A.length * 3 + 1, none⟩) hgb.1 _).alloc (by simp [World.setCell]; exact hbW.size) _
  have HF0 : Hid ((∀ K, K < w.heap.size → ¬ Owned E0 K → V.heap[K]? = w.heap[K]?) ∧ w.heap.size ≤ V.heap.size) := by
    rw [← hV]
    exact ⟨fun K hK h1 => (Below.heap_alloc _ _ K (by simp [World.setCell]; omega)).trans (heap_setCell_other _ _ _ _ (fun e => h1 (by rw [e]; exact HGO.out))), by simp [World.setCell]⟩
  have HS0 : Hid (∀ b ∈ y.bs, ∀ K, b.1.ownBlock = some K → Owned E0 K ∨ w.heap.size ≤ K) := fun b hb K hK => .inl (HSO.out b hb K hK)
  have HB0 : Hid (bsAt aggs r 0 y.bs y.bs) := ⟨rfl, fun j hj => by rw [if_neg (Nat.not_lt_zero j)]⟩
  clear hV HO q1 f1 hbW lne HSO
  go_loopw [20] (fun t wr => ∃ k : Nat, k ≤ na ∧ t = .int .i64 k ∧ Below W0.heap.size W0 wr ∧ Hid ((∀ K, K < w.heap.size → ¬ Owned E0 K → wr.heap[K]? = w.heap[K]?) ∧ w.heap.size ≤ wr.heap.size) ∧ ∃ bs, bsAt aggs r k y.bs bs ∧ Hid (∀ b ∈ bs, ∀ K, b.1.ownBlock = some K → Owned E0 K ∨ w.heap.size ≤ K) ∧ Hid (OG wr W0.heap.size (.slice (some ⟨g, 0, none⟩) LN cap) (A ++ (⟨y.rv, y.row, y.n + 1, y.bv, bs⟩ : GO) :: B))) (fun t _ => na - (intOf t).toNat)
  case atStart => exact ⟨0, Nat.zero_le _, rfl, hbV, HF0, y.bs, HB0.out, HS0, HV⟩
  case round =>
    clear HV hbV HF0 HS0 HB0
    obtain ⟨k, hk, rfl, hbr, HF, bs, hbs, HS, HR⟩ := hrel
    have HBS : Hid (bsAt aggs r k y.bs bs) := hbs
    clear hbs
    by_cases hkn : k < na
    · obtain ⟨ab, ao, ea, a0, a1⟩ := HAG.out k hkn
      subst ea
      have b0 := cell_later hbr a0
      have b1 := cell_later hbr a1
      have i1 : (0 : Int) ≤ (k : Int) := by omega
      have i2 : (k : Int) < (na : Int) := by omega
      have HC1 := HCOL.out k hkn
      have HTk := HT.out k (by rw [hbl]; exact hkn)
      obtain ⟨⟨fn, col⟩, hfc⟩ : ∃ z, aggs.getD k (0, 0) = z := ⟨_, rfl⟩
      have HFC : Hid (aggs.getD k (0, 0) = (fn, col)) := hfc
      rw [hfc] at b0 b1 HC1 HTk
      dsimp only at b0 b1 HC1 HTk
      clear a0 a1 hfc
      by_cases hfn : fn = 1
      · subst hfn
        have H9 : Hid (OG (wr.alloc (.cells #[.int .i64 1, .int .i64 col] 60)) W0.heap.size (.slice (some ⟨g, 0, none⟩) LN cap) (A ++ (⟨y.rv, y.row, y.n + 1, y.bv, bs⟩ : GO) :: B)) := HR.out.below ((Below.refl wr.heap.size wr).alloc (Nat.le_refl _) _)
        have HF1 : Hid ((∀ K, K < w.heap.size → ¬ Owned E0 K → (wr.alloc (.cells #[.int .i64 1, .int .i64 col] 60)).heap[K]? = w.heap[K]?) ∧ w.heap.size ≤ (wr.alloc (.cells #[.int .i64 1, .int .i64 col] 60)).heap.size) := ⟨fun K hK h1 => (Below.heap_alloc _ _ K (Nat.lt_of_lt_of_le hK HF.out.2)).trans (HF.out.1 K hK h1), by simp; exact Nat.le_trans HF.out.2 (Nat.le_succ _)⟩
        have HB1 : Hid (bsAt aggs r (k + 1) y.bs bs) := bsAt_same HBS.out (by rw [HFC.out])
        clear HTk HC1
        go_wp2
        go_roundw
        case rel => exact ⟨k + 1, by omega, by go_num, hbr.alloc hbr.size _, HF1, bs, HB1.out, HS, H9⟩
        case measure => simp [intOf]; omega
      · obtain ⟨hc0, hc1⟩ := HC1 hfn
        obtain ⟨cl, rfl⟩ := Int.eq_ofNat_of_zero_le hc0
        simp only [Int.toNat_natCast] at hc1 HTk
        obtain ⟨rb, ro, er, y1, y2, y3⟩ := HRW.out cl (by rw [HRL.out]; exact hc1)
        subst er
        obtain ⟨⟨ck, cn, cs⟩, hc⟩ : ∃ c, r.getD cl default = c := ⟨_, rfl⟩
        have HC : Hid (r.getD cl default = ⟨ck, cn, cs⟩) := hc
        rw [hc] at y1 y2 y3 HTk
        dsimp only at y1 y2 y3
        have hk2 : k < bs.length := by rw [HBS.out.1, hbl]; exact hkn
        have hb2 := HBS.out.2 k (by rw [hbl]; exact hkn)
        rw [if_neg (Nat.lt_irrefl k)] at hb2
        rw [← hb2] at HTk
        obtain ⟨⟨bval, l⟩, hbdef⟩ : ∃ b, bs.getD k (.slice none 0 0, []) = b := ⟨_, rfl⟩
        have hsp : bs = bs.take k ++ (bval, l) :: bs.drop (k + 1) := by rw [← hbdef]; exact split_at bs k _ hk2
        have HBD : Hid (bs.getD k (.slice none 0 0, []) = (bval, l)) := hbdef
        rw [hbdef] at HTk
        dsimp only at HTk
        have hparts := HR.out.parts (x := (⟨y.rv, y.row, y.n + 1, y.bv, bs⟩ : GO)) (by simp)
        have hown : ownT wr W0.heap.size bval l := hparts.2.2 (bval, l) (by rw [hsp]; simp)
        have ebv := own_is hown
        obtain ⟨ta, hta⟩ : ∃ z, adOf bval = z := ⟨_, rfl⟩
        obtain ⟨tc, htc⟩ : ∃ z, cpOf bval = z := ⟨_, rfl⟩
        rw [hta, htc] at ebv
        clear hta htc
        subst ebv
        have hyb : ∃ bb bc, y.bv = .slice (some ⟨bb, 0, none⟩) na bc := by
          rcases hparts.2.1.2 with ⟨hv, h0⟩ | ⟨bb, bc, cur, hv, _⟩
          · dsimp only at h0; omega
          · exact ⟨bb, bc, by dsimp only at hv; rw [hv, HBS.out.1, hbl]⟩
        obtain ⟨bb, bc, hyb⟩ := hyb
        have HYB : Hid (y.bv = .slice (some ⟨bb, 0, none⟩) na bc) := hyb
        have HSP : Hid (bs = bs.take k ++ (.slice ta l.length tc, l) :: bs.drop (k + 1)) := hsp
        have HLW : Hid (∀ K, (Value.slice ta l.length tc).ownBlock = some K → K < wr.heap.size) := fun K hK => (ch.own_lt hown hK).2
        have HBW : Hid (bb < wr.heap.size) := (ch.own_lt hparts.2.1 (g := bb) (by dsimp only; rw [hyb]; rfl)).2
        have HBB : Hid (Owned E0 bb) := HBO.out bb (by rw [hyb]; rfl)
        have HBT : Hid (∀ K, (Value.slice ta l.length tc).ownBlock = some K → Owned E0 K ∨ w.heap.size ≤ K) := fun K hK => HS.out (.slice ta l.length tc, l) (by rw [HSP.out]; simp) K hK
        obtain ⟨hl1, hl2, hl3⟩ := HTk
        have HMO : Hid (∀ a b, a ≤ b → b < l.length → cmpC (l.getD b default).1 ⟨ck, cn, cs⟩ < 0 → cmpC (l.getD a default).1 ⟨ck, cn, cs⟩ < 0) := hl3
        have HTB : Hid (∀ t ∈ l, 0 ≤ t.2 ∧ t.2 ≤ 1099511627776) := hl2
        have hfn2 : (fn == 1) = false := by simpa using hfn
        clear hparts hown hsp hbdef hb2 hk2 hl2 hl3 hyb HC1 hc
        go_wp2
        generalize hV1 : (World.alloc wr _) = V1
        have hA : Below wr.heap.size wr V1 := by rw [← hV1]; exact (Below.refl _ _).alloc (Nat.le_refl _) _
        have HR1 : Hid (OG V1 W0.heap.size (.slice (some ⟨g, 0, none⟩) LN cap) (A ++ (⟨y.rv, y.row, y.n + 1, y.bv, bs⟩ : GO) :: B)) := HR.out.below hA
        have hbV : Below W0.heap.size W0 V1 := by rw [← hV1]; exact hbr.alloc hbr.size _
        have s0 : V1.cell? ⟨wr.heap.size, 0, none⟩ = some (.int .i64 fn) := by subst hV1; go_simp
        have s1 : V1.cell? ⟨wr.heap.size, 1, none⟩ = some (.int .i64 (cl : Int)) := by subst hV1; go_simp
        have HP1 : Hid (V1.ownsRow W0.heap.size 61 1 (.slice (some ⟨bb, 0, none⟩) na bc) bs.length (bs.map (·.1)) ∧ ownT V1 W0.heap.size (.slice ta l.length tc) l) := by
          have hp := HR1.out.parts (x := (⟨y.rv, y.row, y.n + 1, y.bv, bs⟩ : GO)) (by simp)
          refine ⟨?_, hp.2.2 (.slice ta l.length tc, l) (by rw [HSP.out]; simp)⟩
          have := hp.2.1
          dsimp only at this
          rw [HYB.out] at this
          exact this
        have g2 : V1.cell? ⟨g, A.length * 3 + 2, none⟩ = some (.slice (some ⟨bb, 0, none⟩) na bc) := by
          have hh := HR1.out.head
          have eln : LN = (A ++ (⟨y.rv, y.row, y.n + 1, y.bv, bs⟩ : GO) :: B).length := by have e := own_is hh; injection e
          rw [← eln] at hh
          have zc := (gcells_at (A ++ (⟨y.rv, y.row, y.n + 1, y.bv, bs⟩ : GO) :: B) A.length (by simp)).2.2
          have eAy : (A ++ (⟨y.rv, y.row, y.n + 1, y.bv, bs⟩ : GO) :: B).getD A.length default = (⟨y.rv, y.row, y.n + 1, y.bv, bs⟩ : GO) := by simp [List.getD_eq_getElem?_getD]
          rw [eAy] at zc
          dsimp only at zc
          have hq := own_cell2 hh _ _ zc
          rw [HYB.out] at hq
          exact hq
        have hnbs : bs.length = na := by rw [HBS.out.1, hbl]
        have t1 : V1.cell? ⟨bb, k, none⟩ = some (.slice ta l.length tc) := by
          have hh := HP1.out.1
          rw [hnbs] at hh
          refine own_cell2 hh k _ ?_
          rw [HSP.out, List.map_append, List.map_cons, List.getElem?_append_right (by rw [List.length_map, List.length_take]; omega), List.length_map, List.length_take, Nat.min_eq_left (by omega), Nat.sub_self]
          rfl
        have x1 : V1.cell? ⟨rb, ro + cl * 3, none⟩ = some (.int .i64 ck) := cell_later hbV y1
        have x2 : V1.cell? ⟨rb, ro + cl * 3 + 1, none⟩ = some (.int .i64 cn) := cell_later hbV y2
        have x3 : V1.cell? ⟨rb, ro + cl * 3 + 2, none⟩ = some (.string cs) := cell_later hbV y3
        have KF : Hid (∀ w1, Below V1.heap.size V1 w1 → Calls Tryz.prog 128 #[.slice ta l.length tc, .agg #[.int .i64 ck, .int .i64 cn, .string cs]] w1 fun e w' => e = .returned (.tuple #[.int .i64 (idxT l ⟨ck, cn, cs⟩), .bool (hasT l ⟨ck, cn, cs⟩)]) ∧ Below w1.heap.size w1 w') := fun w1 hb => find_is ta tc l ⟨ck, cn, cs⟩ w1 (by omega) (ownT_at (ch.own_below HP1.out.2 hb)).1 HMO.out
        have KI : Hid (∀ w1, Below V1.heap.size V1 w1 → Calls Tryz.prog 132 #[.slice ta l.length tc, .int .i64 (idxT l ⟨ck, cn, cs⟩), .slice (some ⟨w1.heap.size, 0, none⟩) 1 1] (w1.alloc (.cells #[.int .i64 ck, .int .i64 cn, .string cs, .int .i64 0] 82)) fun e w' => ∃ g9 cap2, e = .returned (.slice (some ⟨g9, 0, none⟩) (l.length + 1) cap2) ∧ ownT w' W0.heap.size (.slice (some ⟨g9, 0, none⟩) (l.length + 1) cap2) (l.take (idxT l ⟨ck, cn, cs⟩) ++ (⟨ck, cn, cs⟩, 0) :: l.drop (idxT l ⟨ck, cn, cs⟩)) ∧ (w1.alloc (.cells #[.int .i64 ck, .int .i64 cn, .string cs, .int .i64 0] 82)).heap.size ≤ w'.heap.size ∧ (∀ b, b < (w1.alloc (.cells #[.int .i64 ck, .int .i64 cn, .string cs, .int .i64 0] 82)).heap.size → (Value.slice ta l.length tc).ownBlock ≠ some b → w'.heap[b]? = (w1.alloc (.cells #[.int .i64 ck, .int .i64 cn, .string cs, .int .i64 0] 82)).heap[b]?) ∧ ((Value.slice ta l.length tc).ownBlock = some g9 ∨ (w1.alloc (.cells #[.int .i64 ck, .int .i64 cn, .string cs, .int .i64 0] 82)).heap.size ≤ g9) ∧ Below W0.heap.size (w1.alloc (.cells #[.int .i64 ck, .int .i64 cn, .string cs, .int .i64 0] 82)) w') := fun w1 hb => by
          have hb9 : Below V1.heap.size V1 (w1.alloc (.cells #[.int .i64 ck, .int .i64 cn, .string cs, .int .i64 0] 82)) := hb.alloc hb.size _
          exact insT_bag (.slice ta l.length tc) l ⟨ck, cn, cs⟩ (idxT l ⟨ck, cn, cs⟩) W0.heap.size w1.heap.size (w1.alloc (.cells #[.int .i64 ck, .int .i64 cn, .string cs, .int .i64 0] 82)) (ch.own_below HP1.out.2 hb9) (idx_le _ _) hl1 (Nat.le_trans hbV.size hb9.size) (by show (w1.heap.push _)[w1.heap.size]? = _; simp) (fun e => by have h1 := (ch.own_lt HP1.out.2 e.symm).2; have h2 := hb.size; omega)
        have LOWB : Hid (rb < W0.heap.size) := World.block_lt_of_cell? _ _ y1
        have HHD : Hid (V1.ownsRow W0.heap.size 53 3 (.slice (some ⟨g, 0, none⟩) LN cap) (A ++ (⟨y.rv, y.row, y.n + 1, y.bv, bs⟩ : GO) :: B).length (gcells (A ++ (⟨y.rv, y.row, y.n + 1, y.bv, bs⟩ : GO) :: B))) := HR1.out.head
        have NT : Hid (some g ≠ (Value.slice ta l.length tc).ownBlock ∧ some bb ≠ (Value.slice ta l.length tc).ownBlock ∧ some rb ≠ (Value.slice ta l.length tc).ownBlock ∧ some wr.heap.size ≠ (Value.slice ta l.length tc).ownBlock) :=
          ⟨fun e => own_apart HHD.out HP1.out.2 (by decide) (g := g) rfl e.symm, fun e => own_apart HP1.out.1 HP1.out.2 (by decide) (g := bb) rfl e.symm, fun e => by have h1 := (ch.own_lt HP1.out.2 e.symm).1; have h2 := LOWB.out; omega, fun e => by have h1 := HLW.out _ e.symm; omega⟩
        have HNB : Hid (g ≠ bb ∧ rb ≠ bb ∧ wr.heap.size ≠ bb) := ⟨fun e => own_apart HHD.out HP1.out.1 (by decide) (g := g) rfl (by rw [e]; rfl), fun e => by have h1 := (ch.own_lt HP1.out.1 (g := bb) rfl).1; have h2 := LOWB.out; omega, fun e => by have h1 := HBW.out; omega⟩
        have hix := idx_le l ⟨ck, cn, cs⟩
        have HIX2 : Hid (hasT l ⟨ck, cn, cs⟩ = true → idxT l ⟨ck, cn, cs⟩ < l.length) := fun h => by unfold hasT at h; simp at h; exact h.1
        have HAD : Hid (addT l ⟨ck, cn, cs⟩ = if hasT l ⟨ck, cn, cs⟩ = true then l.set (idxT l ⟨ck, cn, cs⟩) ((l.getD (idxT l ⟨ck, cn, cs⟩) default).1, (l.getD (idxT l ⟨ck, cn, cs⟩) default).2 + 1) else l.take (idxT l ⟨ck, cn, cs⟩) ++ (⟨ck, cn, cs⟩, 1) :: l.drop (idxT l ⟨ck, cn, cs⟩)) := rfl
        obtain ⟨ix, hixe⟩ : ∃ z, idxT l ⟨ck, cn, cs⟩ = z := ⟨_, rfl⟩
        rw [hixe] at KF KI hix HIX2 HAD
        obtain ⟨hh, hhe⟩ : ∃ z, hasT l ⟨ck, cn, cs⟩ = z := ⟨_, rfl⟩
        rw [hhe] at KF HIX2 HAD
        obtain ⟨n, hn⟩ : ∃ n, l.length = n := ⟨_, rfl⟩
        have HN : Hid (l.length = n) := hn
        rw [hn] at KF KI t1 NT hl1 hix HIX2 HLW HBT HSP HP1
        clear hn hixe hhe hV1 y1 y2 y3 b0 b1 HHD HMO
        go_region_held3 (fun w' => w'.cell? ⟨g, A.length * 3 + 2, none⟩ = some (.slice (some ⟨bb, 0, none⟩) na bc) ∧ w'.cell? ⟨bb, k, none⟩ = some (.slice ta n tc) ∧ w'.cell? ⟨rb, ro + cl * 3, none⟩ = some (.int .i64 ck) ∧ w'.cell? ⟨rb, ro + cl * 3 + 1, none⟩ = some (.int .i64 cn) ∧ w'.cell? ⟨rb, ro + cl * 3 + 2, none⟩ = some (.string cs) ∧ w'.cell? ⟨wr.heap.size, 0, none⟩ = some (.int .i64 fn) ∧ w'.cell? ⟨wr.heap.size, 1, none⟩ = some (.int .i64 (cl : Int))) (first | exact ⟨cell_later hQ1 g2, cell_later hQ1 t1, cell_later hQ1 x1, cell_later hQ1 x2, cell_later hQ1 x3, cell_later hQ1 s0, cell_later hQ1 s1⟩ | go_keep)
          (first | (go_at_call 128; refine (KF.out _ (Below.refl _ _).drew).mono ?_; rintro e y9 ⟨rfl, hy9⟩; have hQ1 : Below V1.heap.size V1 y9 := (Below.refl _ _).drew.trans hy9))
        replace g2 := cell_later hQ1 g2
        replace t1 := cell_later hQ1 t1
        replace x1 := cell_later hQ1 x1
        replace x2 := cell_later hQ1 x2
        replace x3 := cell_later hQ1 x3
        replace s0 := cell_later hQ1 s0
        replace s1 := cell_later hQ1 s1
        have hbY : Below W0.heap.size W0 y9 := hbV.trans (hQ1.mono hbV.size)
        have HRY : Hid (OG y9 W0.heap.size (.slice (some ⟨g, 0, none⟩) LN cap) (A ++ (⟨y.rv, y.row, y.n + 1, y.bv, bs⟩ : GO) :: B)) := HR1.out.below hQ1
        have HFY : Hid ((∀ K, K < w.heap.size → ¬ Owned E0 K → y9.heap[K]? = w.heap[K]?) ∧ w.heap.size ≤ y9.heap.size) := ⟨fun K hK h1 => (hQ1.block K (Nat.lt_of_lt_of_le hK (Nat.le_trans HF.out.2 hA.size))).trans ((hA.block K (Nat.lt_of_lt_of_le hK HF.out.2)).trans (HF.out.1 K hK h1)), Nat.le_trans HF.out.2 (Nat.le_trans hA.size hQ1.size)⟩
        have HPY : Hid (y9.ownsRow W0.heap.size 61 1 (.slice (some ⟨bb, 0, none⟩) na bc) bs.length (bs.map (·.1)) ∧ ownT y9 W0.heap.size (.slice ta n tc) l) := ⟨ch.own_below HP1.out.1 hQ1, ch.own_below HP1.out.2 hQ1⟩
        have j0 : (0 : Int) ≤ (ix : Int) := by omega
        clear KF
        cases hh with
        | true =>
          have hlt : ix < n := HIX2.out rfl
          have hts : ∃ tb, ta = some ⟨tb, 0, none⟩ := by
            rcases HPY.out.2.2 with ⟨hv, h0⟩ | ⟨tb, cap', cur, hv, _⟩
            · rw [HN.out] at h0; omega
            · injection hv with e1 _ _; exact ⟨tb, e1⟩
          obtain ⟨tb, rfl⟩ := hts
          have hixl : ix < l.length := by rw [HN.out]; exact hlt
          have hmem : l.getD ix default ∈ l := by rw [List.getD_eq_getElem?_getD, List.getElem?_eq_getElem hixl]; exact List.getElem_mem hixl
          obtain ⟨hb1, hb2⟩ := HTB.out _ hmem
          have zt := (talCells_at l ix hixl).2.2.2
          obtain ⟨⟨tce, tn⟩, ht⟩ : ∃ t, l.getD ix default = t := ⟨_, rfl⟩
          rw [ht] at hb1 hb2 zt HAD
          dsimp only at hb1 hb2 zt HAD
          have HTe : Hid (l.getD ix default = (tce, tn)) := ht
          have hot := HPY.out.2
          unfold ownT at hot
          rw [HN.out] at hot
          have m3 : y9.cell? ⟨tb, ix * 4 + 3, none⟩ = some (.int .i64 tn) := own_cell2 hot _ _ zt
          have fz := ch.own_frozen hot (ix * 4 + 3)
          have htl := ch.own_lt hot (g := tb) rfl
          have iw : IntKind.i64.wrap (tn + 1) = tn + 1 := by rw [IntKind.wrap_i64]; omega
          have H9 : Hid (OG (y9.setCell ⟨tb, ix * 4 + 3, none⟩ (.int .i64 (tn + 1))) W0.heap.size (.slice (some ⟨g, 0, none⟩) LN cap) (A ++ (⟨y.rv, y.row, y.n + 1, y.bv, bs.take k ++ (.slice (some ⟨tb, 0, none⟩) n tc, addT l ⟨ck, cn, cs⟩) :: bs.drop (k + 1)⟩ : GO) :: B)) := by
            have h := HRY.out.putT (x := (⟨y.rv, y.row, y.n + 1, y.bv, bs⟩ : GO)) HSP.out ix hixl (tn + 1)
            rw [HTe.out] at h
            rw [HAD.out, if_pos rfl]
            exact h
          have HB1 : Hid (bsAt aggs r (k + 1) y.bs (bs.take k ++ (.slice (some ⟨tb, 0, none⟩) n tc, addT l ⟨ck, cn, cs⟩) :: bs.drop (k + 1))) := by
            have h := bsAt_next HBS.out (by rw [hbl]; exact hkn) (by rw [HFC.out]; exact hfn) (.slice (some ⟨tb, 0, none⟩) n tc)
            rw [HBD.out, HFC.out] at h
            dsimp only at h
            rw [Int.toNat_natCast, HC.out] at h
            exact h
          have HS1 : Hid (∀ b ∈ bs.take k ++ (.slice (some ⟨tb, 0, none⟩) n tc, addT l ⟨ck, cn, cs⟩) :: bs.drop (k + 1), ∀ K, b.1.ownBlock = some K → Owned E0 K ∨ w.heap.size ≤ K) := fun b hb K hK => by
            rcases List.mem_append.1 hb with h | h
            · exact HS.out b (List.mem_of_mem_take h) K hK
            · rcases List.mem_cons.1 h with h | h
              · rw [h] at hK; exact HBT.out K hK
              · exact HS.out b (List.mem_of_mem_drop h) K hK
          have HF1 : Hid ((∀ K, K < w.heap.size → ¬ Owned E0 K → (y9.setCell ⟨tb, ix * 4 + 3, none⟩ (.int .i64 (tn + 1))).heap[K]? = w.heap[K]?) ∧ w.heap.size ≤ (y9.setCell ⟨tb, ix * 4 + 3, none⟩ (.int .i64 (tn + 1))).heap.size) := ⟨fun K hK h1 => (heap_setCell_other _ _ _ _ (fun e => by
            rcases HBT.out tb rfl with h2 | h2
            · exact h1 (by rw [e]; exact h2)
            · dsimp only at e; omega)).trans (HFY.out.1 K hK h1), by simp [World.setCell]; exact HFY.out.2⟩
          have j1 : (ix : Int) < (n : Int) := by omega
          clear hb1 hb2 zt hot hmem ht KI
          go_wp2
          go_roundw
          case rel => exact ⟨k + 1, by omega, by go_num, hbY.setCell (p := ⟨tb, ix * 4 + 3, none⟩) htl.1 _, HF1, _, HB1.out, HS1, H9⟩
          case measure => simp [intOf]; omega
        | false =>
          have hpb := HPY.out.1
          rw [hnbs] at hpb
          have HPB : Hid (y9.ownsRow W0.heap.size 61 1 (.slice (some ⟨bb, 0, none⟩) na bc) na (bs.map (·.1))) := hpb
          clear hpb
          have u1 : g < y9.heap.size := World.block_lt_of_cell? _ _ g2
          have u2 : bb < y9.heap.size := World.block_lt_of_cell? _ _ t1
          have u3 : rb < y9.heap.size := World.block_lt_of_cell? _ _ x1
          have u4 : wr.heap.size < y9.heap.size := World.block_lt_of_cell? _ _ s0
          have n1 : g ≠ bb := HNB.out.1
          have n2 : rb ≠ bb := HNB.out.2.1
          have n3 : wr.heap.size ≠ bb := HNB.out.2.2
          go_wp2
          refine wp_region_held_drew (S := (fun w' => w'.cell? ⟨g, A.length * 3 + 2, none⟩ = some (.slice (some ⟨bb, 0, none⟩) na bc) ∧ w'.cell? ⟨rb, ro + cl * 3, none⟩ = some (.int .i64 ck) ∧ w'.cell? ⟨rb, ro + cl * 3 + 1, none⟩ = some (.int .i64 cn) ∧ w'.cell? ⟨rb, ro + cl * 3 + 2, none⟩ = some (.string cs) ∧ w'.cell? ⟨wr.heap.size, 0, none⟩ = some (.int .i64 fn) ∧ w'.cell? ⟨wr.heap.size, 1, none⟩ = some (.int .i64 (cl : Int)))) (by kernel_rfl) ⟨by go_simp, by go_simp, by go_simp, by go_simp, by go_simp, by go_simp⟩ (fun hHeld => ?_)
          refine takeH (v := ?_) 0 (some 46) rfl (by kernel_rfl) (by kernel_rfl) (by kernel_rfl) (fun _ _ _ h => h) rfl rfl ?_ hHeld ?_
          rotate_left
          · intro w' hSw; (try dsimp only at hSw); first | (go_simp; done) | (go_simp; with_reducible rfl)
          try simp only [Act.put, List.setIfInBounds_toArray, List.set_cons_zero, List.set_cons_succ]
          refine takeH (v := ?_) 1 (some 47) rfl (by kernel_rfl) (by kernel_rfl) (by kernel_rfl) (fun _ _ _ h => h) rfl rfl ?_ hHeld ?_
          rotate_left
          · intro w' hSw; (try dsimp only at hSw); first | (go_simp; done) | (go_simp; with_reducible rfl)
          try simp only [Act.put, List.setIfInBounds_toArray, List.set_cons_zero, List.set_cons_succ]
          refine takeH (v := ?_) 2 (some 48) rfl (by kernel_rfl) (by kernel_rfl) (by kernel_rfl) (fun _ _ _ h => h) rfl rfl ?_ hHeld ?_
          rotate_left
          · intro w' hSw; (try dsimp only at hSw); first | (go_simp; done) | (go_simp; with_reducible rfl)
          try simp only [Act.put, List.setIfInBounds_toArray, List.set_cons_zero, List.set_cons_succ]
          refine takeH (v := ?_) 3 (some 49) rfl (by kernel_rfl) (by kernel_rfl) (by kernel_rfl) (fun _ _ _ h => h) rfl rfl ?_ hHeld ?_
          rotate_left
          · intro w' hSw; (try dsimp only at hSw); first | (go_simp; done) | (go_simp; with_reducible rfl)
          try simp only [Act.put, List.setIfInBounds_toArray, List.set_cons_zero, List.set_cons_succ]
          refine takeH (v := ?_) 4 (some 50) rfl (by kernel_rfl) (by kernel_rfl) (by kernel_rfl) (fun _ _ _ h => h) rfl rfl ?_ hHeld ?_
          rotate_left
          · intro w' hSw; (try dsimp only at hSw); first | (go_simp; done) | (go_simp; with_reducible rfl)
          try simp only [Act.put, List.setIfInBounds_toArray, List.set_cons_zero, List.set_cons_succ]
          refine takeH (v := ?_) 5 (some 51) rfl (by kernel_rfl) (by kernel_rfl) (by kernel_rfl) (fun _ _ _ h => h) rfl rfl ?_ hHeld ?_
          rotate_left
          · intro w' hSw; (try dsimp only at hSw); first | (go_simp; done) | (go_simp; with_reducible rfl)
          try simp only [Act.put, List.setIfInBounds_toArray, List.set_cons_zero, List.set_cons_succ]
          refine takeH (v := ?_) 6 (some 52) rfl (by kernel_rfl) (by kernel_rfl) (by kernel_rfl) (fun _ _ _ h => h) rfl rfl ?_ hHeld ?_
          rotate_left
          · intro w' hSw; (try dsimp only at hSw); first | (go_simp; done) | (go_simp; with_reducible rfl)
          try simp only [Act.put, List.setIfInBounds_toArray, List.set_cons_zero, List.set_cons_succ]
          refine takeH (v := ?_) 7 (some 53) rfl (by kernel_rfl) (by kernel_rfl) (by kernel_rfl) (fun _ _ _ h => h) rfl rfl ?_ hHeld ?_
          rotate_left
          · intro w' hSw; (try dsimp only at hSw); first | (go_simp; done) | (go_simp; with_reducible rfl)
          try simp only [Act.put, List.setIfInBounds_toArray, List.set_cons_zero, List.set_cons_succ]
          refine takeH (v := ?_) 8 (some 54) rfl (by kernel_rfl) (by kernel_rfl) (by kernel_rfl) (fun _ _ _ h => h) rfl rfl ?_ hHeld ?_
          rotate_left
          · intro w' hSw; (try dsimp only at hSw); first | (go_simp; done) | (go_simp; with_reducible rfl)
          try simp only [Act.put, List.setIfInBounds_toArray, List.set_cons_zero, List.set_cons_succ]
          refine takeH (v := ?_) 9 (some 55) rfl (by kernel_rfl) (by kernel_rfl) (by kernel_rfl) (fun _ _ _ h => h) rfl rfl ?_ hHeld ?_
          rotate_left
          · intro w' hSw; (try dsimp only at hSw); first | (go_simp; done) | (go_simp; with_reducible rfl)
          try simp only [Act.put, List.setIfInBounds_toArray, List.set_cons_zero, List.set_cons_succ]
          refine takeH (v := ?_) 10 (some 56) rfl (by kernel_rfl) (by kernel_rfl) (by kernel_rfl) (fun _ _ _ h => h) rfl rfl ?_ hHeld ?_
          rotate_left
          · intro w' hSw; (try dsimp only at hSw); first | (go_simp; done) | (go_simp; with_reducible rfl)
          try simp only [Act.put, List.setIfInBounds_toArray, List.set_cons_zero, List.set_cons_succ]
          refine takeH (v := ?_) 12 (some 58) rfl (by kernel_rfl) (by kernel_rfl) (by kernel_rfl) (fun _ _ _ h => h) rfl rfl ?_ hHeld ?_
          rotate_left
          · intro w' hSw; (try dsimp only at hSw); first | (go_simp; done) | (go_simp; with_reducible rfl)
          try simp only [Act.put, List.setIfInBounds_toArray, List.set_cons_zero, List.set_cons_succ]
          refine takeH (v := ?_) 13 (some 59) rfl (by kernel_rfl) (by kernel_rfl) (by kernel_rfl) (fun _ _ _ h => h) rfl rfl ?_ hHeld ?_
          rotate_left
          · intro w' hSw; (try dsimp only at hSw); first | (go_simp; done) | (go_simp; with_reducible rfl)
          try simp only [Act.put, List.setIfInBounds_toArray, List.set_cons_zero, List.set_cons_succ]
          refine takeH (v := ?_) 14 (some 60) rfl (by kernel_rfl) (by kernel_rfl) (by kernel_rfl) (fun _ _ _ h => h) rfl rfl ?_ hHeld ?_
          rotate_left
          · intro w' hSw; (try dsimp only at hSw); first | (go_simp; done) | (go_simp; with_reducible rfl)
          try simp only [Act.put, List.setIfInBounds_toArray, List.set_cons_zero, List.set_cons_succ]
          refine takeH (v := ?_) 15 (some 61) rfl (by kernel_rfl) (by kernel_rfl) (by kernel_rfl) (fun _ _ _ h => h) rfl rfl ?_ hHeld ?_
          rotate_left
          · intro w' hSw; (try dsimp only at hSw); first | (go_simp; done) | (go_simp; with_reducible rfl)
          try simp only [Act.put, List.setIfInBounds_toArray, List.set_cons_zero, List.set_cons_succ]
          refine takeH (v := ?_) 16 (some 62) rfl (by kernel_rfl) (by kernel_rfl) (by kernel_rfl) (fun _ _ _ h => h) rfl rfl ?_ hHeld ?_
          rotate_left
          · intro w' hSw; (try dsimp only at hSw); first | (go_simp; done) | (go_simp; with_reducible rfl)
          try simp only [Act.put, List.setIfInBounds_toArray, List.set_cons_zero, List.set_cons_succ]
          refine takeH (v := ?_) 17 (some 63) rfl (by kernel_rfl) (by kernel_rfl) (by kernel_rfl) (fun _ _ _ h => h) rfl rfl ?_ hHeld ?_
          rotate_left
          · intro w' hSw; (try dsimp only at hSw); first | (go_simp; done) | (go_simp; with_reducible rfl)
          try simp only [Act.put, List.setIfInBounds_toArray, List.set_cons_zero, List.set_cons_succ]
          refine takeH (v := ?_) 18 (some 64) rfl (by kernel_rfl) (by kernel_rfl) (by kernel_rfl) (fun _ _ _ h => h) rfl rfl ?_ hHeld ?_
          rotate_left
          · intro w' hSw; (try dsimp only at hSw); first | (go_simp; done) | (go_simp; with_reducible rfl)
          try simp only [Act.put, List.setIfInBounds_toArray, List.set_cons_zero, List.set_cons_succ]
          refine wpAnyH_ready (rs := [11, 19]) (by kernel_rfl) (by simp) ?_
          refine AllReadyH.cons rfl (fun K hK => ?_) (AllReadyH.cons rfl (fun K hK => ?_) AllReadyH.nil)
          · go_simp
            refine hK.out _ _ hHeld (fun hHeld => ?_)
            clear hK K
            try simp only [Act.put, List.setIfInBounds_toArray, List.set_cons_zero, List.set_cons_succ]
            refine wpAnyH_ready (rs := [19]) (by kernel_rfl) (by simp) ?_
            refine AllReadyH.cons rfl (fun K hK => ?_) AllReadyH.nil
            go_simp
            refine hK.out _ _ ⟨cell_later ((Below.refl _ _).alloc (Nat.le_refl _) _) hHeld.1, cell_later ((Below.refl _ _).alloc (Nat.le_refl _) _) hHeld.2.1, cell_later ((Below.refl _ _).alloc (Nat.le_refl _) _) hHeld.2.2.1, cell_later ((Below.refl _ _).alloc (Nat.le_refl _) _) hHeld.2.2.2.1, cell_later ((Below.refl _ _).alloc (Nat.le_refl _) _) hHeld.2.2.2.2.1, cell_later ((Below.refl _ _).alloc (Nat.le_refl _) _) hHeld.2.2.2.2.2⟩ (fun hHeld => ?_)
            clear hK K
            try simp only [Act.put, List.setIfInBounds_toArray, List.set_cons_zero, List.set_cons_succ]
            refine wpAnyH_ready (rs := [20]) (by kernel_rfl) (by simp) ?_
            refine AllReadyH.cons rfl (fun K hK => ?_) AllReadyH.nil
            go_simp
            refine (KI.out _ hQ1.drew).mono ?_
            rintro e w2 ⟨g9, cap9, rfl, hown9, hsz9, hblk9, hat9, hbel9⟩
            have hbY9 : Below y9.heap.size y9 (y9.drew.alloc (.cells #[.int .i64 ck, .int .i64 cn, .string cs, .int .i64 0] 82)) := (Below.refl _ _).drew.alloc (by simp) _
            have pf9 : w2.frozen? ⟨bb, k, none⟩ = false := (World.frozen?_of_block (w := y9.drew.alloc (.cells #[.int .i64 ck, .int .i64 cn, .string cs, .int .i64 0] 82)) (hblk9 bb (by simp; omega) (fun e => NT.out.2.1 e.symm))).trans (ch.own_frozen (ch.own_below HPB.out hbY9) k)
            have far9 : ∀ {B of : Nat} {v : Value}, some B ≠ (Value.slice ta n tc).ownBlock → B < y9.heap.size → y9.cell? ⟨B, of, none⟩ = some v → w2.cell? ⟨B, of, none⟩ = some v := fun hB hl hc => (World.cell?_of_block (w := y9.drew.alloc (.cells #[.int .i64 ck, .int .i64 cn, .string cs, .int .i64 0] 82)) (hblk9 _ (by simp; omega) (fun e => hB e.symm))).trans (cell_later hbY9 hc)
            have k2 := far9 NT.out.2.1 u2 t1
            have k1 := far9 NT.out.1 u1 g2
            have k3 := far9 NT.out.2.2.1 u3 x1
            have k4 := far9 NT.out.2.2.1 u3 x2
            have k5 := far9 NT.out.2.2.1 u3 x3
            have k6 := far9 NT.out.2.2.2 u4 s0
            have k7 := far9 NT.out.2.2.2 u4 s1
            go_wp2_with fail
            refine hK.out _ _ ⟨k1, k3, k4, k5, k6, k7⟩ (fun hHeld => ?_)
            clear hK K
            try simp only [Act.put, List.setIfInBounds_toArray, List.set_cons_zero, List.set_cons_succ]
            refine wpAnyH_ready (rs := [21]) (by kernel_rfl) (by simp) ?_
            refine AllReadyH.cons rfl (fun K hK => ?_) AllReadyH.nil
            go_simp
            refine hK.out _ _ hHeld (fun hHeld => ?_)
            clear hK K
            try simp only [Act.put, List.setIfInBounds_toArray, List.set_cons_zero, List.set_cons_succ]
            refine wpAnyH_ready (rs := [22]) (by kernel_rfl) (by simp) ?_
            refine AllReadyH.cons rfl (fun K hK => ?_) AllReadyH.nil
            go_simp
            refine hK.out _ _ ⟨by go_simp, by go_simp, by go_simp, by go_simp, by go_simp, by go_simp⟩ (fun hHeld => ?_)
            clear hK K hHeld
            try simp only [Act.put, List.setIfInBounds_toArray, List.set_cons_zero, List.set_cons_succ]
            refine wpAnyH_done (by kernel_rfl) ?_ _
            have htk : (bs.take k).length = k := by rw [List.length_take]; omega
            have HO2 : Hid (OG (w2.setCell ⟨bb, k, none⟩ (.slice (some ⟨g9, 0, none⟩) (n + 1) cap9)) W0.heap.size (.slice (some ⟨g, 0, none⟩) LN cap) (A ++ (⟨y.rv, y.row, y.n + 1, y.bv, bs.take k ++ (.slice (some ⟨g9, 0, none⟩) (n + 1) cap9, l.take ix ++ (⟨ck, cn, cs⟩, 0) :: l.drop ix) :: bs.drop (k + 1)⟩ : GO) :: B)) := by
              have h := (HRY.out.below hbY9).putB (w2 := w2) (x := (⟨y.rv, y.row, y.n + 1, y.bv, bs⟩ : GO)) (b' := (.slice (some ⟨g9, 0, none⟩) (n + 1) cap9, l.take ix ++ (⟨ck, cn, cs⟩, 0) :: l.drop ix)) HSP.out HYB.out hsz9 hblk9 hown9 (fun g hg => by cases hg; exact hat9)
              rw [htk] at h
              exact h
            have hbV2 : Below W0.heap.size W0 (w2.setCell ⟨bb, k, none⟩ (.slice (some ⟨g9, 0, none⟩) (n + 1) cap9)) := ((hbY.trans (hbY9.mono hbY.size)).trans hbel9).setCell (p := ⟨bb, k, none⟩) (ch.own_lt HPB.out (g := bb) rfl).1 _
            have HF2 : Hid (((∀ K, K < w.heap.size → ¬ Owned E0 K → (w2.setCell ⟨bb, k, none⟩ (.slice (some ⟨g9, 0, none⟩) (n + 1) cap9)).heap[K]? = w.heap[K]?) ∧ w.heap.size ≤ (w2.setCell ⟨bb, k, none⟩ (.slice (some ⟨g9, 0, none⟩) (n + 1) cap9)).heap.size) ∧ (Owned E0 g9 ∨ w.heap.size ≤ g9)) := by
              refine ⟨⟨fun K hK h1 => ?_, by simp [World.setCell]; exact Nat.le_trans HFY.out.2 (Nat.le_trans hbY9.size hsz9)⟩, ?_⟩
              · rw [heap_setCell_other _ _ _ _ (fun e => h1 (by rw [e]; exact HBB.out)), hblk9 K (by have := HFY.out.2; simp; omega) (fun e => by
                  rcases HBT.out K e with h2 | h2
                  · exact h1 h2
                  · omega), hbY9.block K (by have := HFY.out.2; omega)]
                exact HFY.out.1 K hK h1
              · rcases hat9 with h2 | h2
                · exact HBT.out g9 h2
                · right
                  have := HFY.out.2
                  simp at h2
                  omega
            generalize (w2.setCell ⟨bb, k, none⟩ (.slice (some ⟨g9, 0, none⟩) (n + 1) cap9)) = V2 at HO2 hbV2 HF2 ⊢
            clear hat9 k1 k2 k3 k4 k5 k6 k7 far9 pf9 hown9 hblk9 hbel9 hbY9 x1 x2 x3 s0 s1 g2 t1 KI HR1 u1 u2 u3 u4
            have hp2 := HO2.out.parts (x := (⟨y.rv, y.row, y.n + 1, y.bv, bs.take k ++ (.slice (some ⟨g9, 0, none⟩) (n + 1) cap9, l.take ix ++ (⟨ck, cn, cs⟩, 0) :: l.drop ix) :: bs.drop (k + 1)⟩ : GO)) (by simp)
            have hlen2 : (bs.take k ++ (Value.slice (some ⟨g9, 0, none⟩) (n + 1) cap9, l.take ix ++ (⟨ck, cn, cs⟩, 0) :: l.drop ix) :: bs.drop (k + 1)).length = na := by simp; omega
            have hl2 : (l.take ix ++ ((⟨ck, cn, cs⟩ : Cel), (0 : Int)) :: l.drop ix).length = n + 1 := by have := HN.out; simp; omega
            have hget : (l.take ix ++ ((⟨ck, cn, cs⟩ : Cel), (0 : Int)) :: l.drop ix).getD ix default = (⟨ck, cn, cs⟩, 0) := by
              have e1 : (l.take ix).length = ix := by have := HN.out; rw [List.length_take]; omega
              rw [List.getD_eq_getElem?_getD, List.getElem?_append_right (by omega), e1, Nat.sub_self]
              rfl
            have hbg := hp2.2.1
            dsimp only at hbg
            rw [HYB.out, hlen2] at hbg
            have t1 : V2.cell? ⟨bb, k, none⟩ = some (.slice (some ⟨g9, 0, none⟩) (n + 1) cap9) := own_cell2 hbg k _ (by rw [List.map_append, List.map_cons, List.getElem?_append_right (by rw [List.length_map, htk]; omega), List.length_map, htk, Nat.sub_self]; rfl)
            have hot := hp2.2.2 (.slice (some ⟨g9, 0, none⟩) (n + 1) cap9, l.take ix ++ (⟨ck, cn, cs⟩, 0) :: l.drop ix) (by simp)
            unfold ownT at hot
            dsimp only at hot
            rw [hl2] at hot
            have zt := (talCells_at (l.take ix ++ ((⟨ck, cn, cs⟩ : Cel), (0 : Int)) :: l.drop ix) ix (by rw [hl2]; omega)).2.2.2
            rw [hget] at zt
            dsimp only at zt
            have m3 : V2.cell? ⟨g9, ix * 4 + 3, none⟩ = some (.int .i64 0) := own_cell2 hot _ _ zt
            have fz := ch.own_frozen hot (ix * 4 + 3)
            have hg9 := (ch.own_lt hot (g := g9) rfl).1
            have g2 : V2.cell? ⟨g, A.length * 3 + 2, none⟩ = some (.slice (some ⟨bb, 0, none⟩) na bc) := by
              have hh := HO2.out.head
              have eln := own_is hh
              injection eln with _ eln _
              rw [← eln] at hh
              have zc := (gcells_at (A ++ (⟨y.rv, y.row, y.n + 1, y.bv, bs.take k ++ (.slice (some ⟨g9, 0, none⟩) (n + 1) cap9, l.take ix ++ (⟨ck, cn, cs⟩, 0) :: l.drop ix) :: bs.drop (k + 1)⟩ : GO) :: B) A.length (by simp)).2.2
              have eAy : (A ++ (⟨y.rv, y.row, y.n + 1, y.bv, bs.take k ++ (.slice (some ⟨g9, 0, none⟩) (n + 1) cap9, l.take ix ++ (⟨ck, cn, cs⟩, 0) :: l.drop ix) :: bs.drop (k + 1)⟩ : GO) :: B).getD A.length default = (⟨y.rv, y.row, y.n + 1, y.bv, bs.take k ++ (.slice (some ⟨g9, 0, none⟩) (n + 1) cap9, l.take ix ++ (⟨ck, cn, cs⟩, 0) :: l.drop ix) :: bs.drop (k + 1)⟩ : GO) := by simp [List.getD_eq_getElem?_getD]
              rw [eAy] at zc
              dsimp only at zc
              have hq := own_cell2 hh _ _ zc
              rw [HYB.out] at hq
              exact hq
            have H9 : Hid (OG (V2.setCell ⟨g9, ix * 4 + 3, none⟩ (.int .i64 1)) W0.heap.size (.slice (some ⟨g, 0, none⟩) LN cap) (A ++ (⟨y.rv, y.row, y.n + 1, y.bv, bs.take k ++ (.slice (some ⟨g9, 0, none⟩) (n + 1) cap9, addT l ⟨ck, cn, cs⟩) :: bs.drop (k + 1)⟩ : GO) :: B)) := by
              have h := HO2.out.putT (x := (⟨y.rv, y.row, y.n + 1, y.bv, bs.take k ++ (.slice (some ⟨g9, 0, none⟩) (n + 1) cap9, l.take ix ++ (⟨ck, cn, cs⟩, 0) :: l.drop ix) :: bs.drop (k + 1)⟩ : GO)) rfl ix (by rw [hl2]; omega) 1
              rw [hget] at h
              dsimp only at h
              have e1 : (l.take ix).length = ix := by have := HN.out; rw [List.length_take]; omega
              have e2 := set_mid (l.take ix) (l.drop ix) ((⟨ck, cn, cs⟩ : Cel), (0 : Int)) (⟨ck, cn, cs⟩, 1)
              rw [e1] at e2
              rw [e2] at h
              rw [HAD.out, if_neg (by decide)]
              exact h
            have HB1 : Hid (bsAt aggs r (k + 1) y.bs (bs.take k ++ (.slice (some ⟨g9, 0, none⟩) (n + 1) cap9, addT l ⟨ck, cn, cs⟩) :: bs.drop (k + 1))) := by
              have h := bsAt_next HBS.out (by rw [hbl]; exact hkn) (by rw [HFC.out]; exact hfn) (.slice (some ⟨g9, 0, none⟩) (n + 1) cap9)
              rw [HBD.out, HFC.out] at h
              dsimp only at h
              rw [Int.toNat_natCast, HC.out] at h
              exact h
            have HS1 : Hid (∀ b ∈ bs.take k ++ (.slice (some ⟨g9, 0, none⟩) (n + 1) cap9, addT l ⟨ck, cn, cs⟩) :: bs.drop (k + 1), ∀ K, b.1.ownBlock = some K → Owned E0 K ∨ w.heap.size ≤ K) := fun b hb K hK => by
              rcases List.mem_append.1 hb with h | h
              · exact HS.out b (List.mem_of_mem_take h) K hK
              · rcases List.mem_cons.1 h with h | h
                · rw [h] at hK; cases hK; exact HF2.out.2
                · exact HS.out b (List.mem_of_mem_drop h) K hK
            have HF3 : Hid ((∀ K, K < w.heap.size → ¬ Owned E0 K → (V2.setCell ⟨g9, ix * 4 + 3, none⟩ (.int .i64 1)).heap[K]? = w.heap[K]?) ∧ w.heap.size ≤ (V2.setCell ⟨g9, ix * 4 + 3, none⟩ (.int .i64 1)).heap.size) := ⟨fun K hK h1 => (heap_setCell_other _ _ _ _ (fun e => by
              rcases HF2.out.2 with h2 | h2
              · exact h1 (by rw [e]; exact h2)
              · dsimp only at e; omega)).trans (HF2.out.1.1 K hK h1), by simp [World.setCell]; exact HF2.out.1.2⟩
            have j1 : (ix : Int) < ((n + 1 : Nat) : Int) := by omega
            have j2 : (ix : Int) < (n : Int) + 1 := by omega
            clear hp2 hbg hot zt hget hl2 hlen2
            go_wp2
            go_roundw
            case rel => exact ⟨k + 1, by omega, by go_num, hbV2.setCell (p := ⟨g9, ix * 4 + 3, none⟩) hg9 _, HF3, _, HB1.out, HS1, H9⟩
            case measure => simp [intOf]; omega
          · go_simp
            refine hK.out _ _ ⟨cell_later ((Below.refl _ _).alloc (Nat.le_refl _) _) hHeld.1, cell_later ((Below.refl _ _).alloc (Nat.le_refl _) _) hHeld.2.1, cell_later ((Below.refl _ _).alloc (Nat.le_refl _) _) hHeld.2.2.1, cell_later ((Below.refl _ _).alloc (Nat.le_refl _) _) hHeld.2.2.2.1, cell_later ((Below.refl _ _).alloc (Nat.le_refl _) _) hHeld.2.2.2.2.1, cell_later ((Below.refl _ _).alloc (Nat.le_refl _) _) hHeld.2.2.2.2.2⟩ (fun hHeld => ?_)
            clear hK K
            try simp only [Act.put, List.setIfInBounds_toArray, List.set_cons_zero, List.set_cons_succ]
            refine wpAnyH_ready (rs := [11]) (by kernel_rfl) (by simp) ?_
            refine AllReadyH.cons rfl (fun K hK => ?_) AllReadyH.nil
            go_simp
            refine hK.out _ _ hHeld (fun hHeld => ?_)
            clear hK K
            try simp only [Act.put, List.setIfInBounds_toArray, List.set_cons_zero, List.set_cons_succ]
            refine wpAnyH_ready (rs := [20]) (by kernel_rfl) (by simp) ?_
            refine AllReadyH.cons rfl (fun K hK => ?_) AllReadyH.nil
            go_simp
            refine (KI.out _ hQ1.drew).mono ?_
            rintro e w2 ⟨g9, cap9, rfl, hown9, hsz9, hblk9, hat9, hbel9⟩
            have hbY9 : Below y9.heap.size y9 (y9.drew.alloc (.cells #[.int .i64 ck, .int .i64 cn, .string cs, .int .i64 0] 82)) := (Below.refl _ _).drew.alloc (by simp) _
            have pf9 : w2.frozen? ⟨bb, k, none⟩ = false := (World.frozen?_of_block (w := y9.drew.alloc (.cells #[.int .i64 ck, .int .i64 cn, .string cs, .int .i64 0] 82)) (hblk9 bb (by simp; omega) (fun e => NT.out.2.1 e.symm))).trans (ch.own_frozen (ch.own_below HPB.out hbY9) k)
            have far9 : ∀ {B of : Nat} {v : Value}, some B ≠ (Value.slice ta n tc).ownBlock → B < y9.heap.size → y9.cell? ⟨B, of, none⟩ = some v → w2.cell? ⟨B, of, none⟩ = some v := fun hB hl hc => (World.cell?_of_block (w := y9.drew.alloc (.cells #[.int .i64 ck, .int .i64 cn, .string cs, .int .i64 0] 82)) (hblk9 _ (by simp; omega) (fun e => hB e.symm))).trans (cell_later hbY9 hc)
            have k2 := far9 NT.out.2.1 u2 t1
            have k1 := far9 NT.out.1 u1 g2
            have k3 := far9 NT.out.2.2.1 u3 x1
            have k4 := far9 NT.out.2.2.1 u3 x2
            have k5 := far9 NT.out.2.2.1 u3 x3
            have k6 := far9 NT.out.2.2.2 u4 s0
            have k7 := far9 NT.out.2.2.2 u4 s1
            go_wp2_with fail
            refine hK.out _ _ ⟨k1, k3, k4, k5, k6, k7⟩ (fun hHeld => ?_)
            clear hK K
            try simp only [Act.put, List.setIfInBounds_toArray, List.set_cons_zero, List.set_cons_succ]
            refine wpAnyH_ready (rs := [21]) (by kernel_rfl) (by simp) ?_
            refine AllReadyH.cons rfl (fun K hK => ?_) AllReadyH.nil
            go_simp
            refine hK.out _ _ hHeld (fun hHeld => ?_)
            clear hK K
            try simp only [Act.put, List.setIfInBounds_toArray, List.set_cons_zero, List.set_cons_succ]
            refine wpAnyH_ready (rs := [22]) (by kernel_rfl) (by simp) ?_
            refine AllReadyH.cons rfl (fun K hK => ?_) AllReadyH.nil
            go_simp
            refine hK.out _ _ ⟨by go_simp, by go_simp, by go_simp, by go_simp, by go_simp, by go_simp⟩ (fun hHeld => ?_)
            clear hK K hHeld
            try simp only [Act.put, List.setIfInBounds_toArray, List.set_cons_zero, List.set_cons_succ]
            refine wpAnyH_done (by kernel_rfl) ?_ _
            have htk : (bs.take k).length = k := by rw [List.length_take]; omega
            have HO2 : Hid (OG (w2.setCell ⟨bb, k, none⟩ (.slice (some ⟨g9, 0, none⟩) (n + 1) cap9)) W0.heap.size (.slice (some ⟨g, 0, none⟩) LN cap) (A ++ (⟨y.rv, y.row, y.n + 1, y.bv, bs.take k ++ (.slice (some ⟨g9, 0, none⟩) (n + 1) cap9, l.take ix ++ (⟨ck, cn, cs⟩, 0) :: l.drop ix) :: bs.drop (k + 1)⟩ : GO) :: B)) := by
              have h := (HRY.out.below hbY9).putB (w2 := w2) (x := (⟨y.rv, y.row, y.n + 1, y.bv, bs⟩ : GO)) (b' := (.slice (some ⟨g9, 0, none⟩) (n + 1) cap9, l.take ix ++ (⟨ck, cn, cs⟩, 0) :: l.drop ix)) HSP.out HYB.out hsz9 hblk9 hown9 (fun g hg => by cases hg; exact hat9)
              rw [htk] at h
              exact h
            have hbV2 : Below W0.heap.size W0 (w2.setCell ⟨bb, k, none⟩ (.slice (some ⟨g9, 0, none⟩) (n + 1) cap9)) := ((hbY.trans (hbY9.mono hbY.size)).trans hbel9).setCell (p := ⟨bb, k, none⟩) (ch.own_lt HPB.out (g := bb) rfl).1 _
            have HF2 : Hid (((∀ K, K < w.heap.size → ¬ Owned E0 K → (w2.setCell ⟨bb, k, none⟩ (.slice (some ⟨g9, 0, none⟩) (n + 1) cap9)).heap[K]? = w.heap[K]?) ∧ w.heap.size ≤ (w2.setCell ⟨bb, k, none⟩ (.slice (some ⟨g9, 0, none⟩) (n + 1) cap9)).heap.size) ∧ (Owned E0 g9 ∨ w.heap.size ≤ g9)) := by
              refine ⟨⟨fun K hK h1 => ?_, by simp [World.setCell]; exact Nat.le_trans HFY.out.2 (Nat.le_trans hbY9.size hsz9)⟩, ?_⟩
              · rw [heap_setCell_other _ _ _ _ (fun e => h1 (by rw [e]; exact HBB.out)), hblk9 K (by have := HFY.out.2; simp; omega) (fun e => by
                  rcases HBT.out K e with h2 | h2
                  · exact h1 h2
                  · omega), hbY9.block K (by have := HFY.out.2; omega)]
                exact HFY.out.1 K hK h1
              · rcases hat9 with h2 | h2
                · exact HBT.out g9 h2
                · right
                  have := HFY.out.2
                  simp at h2
                  omega
            generalize (w2.setCell ⟨bb, k, none⟩ (.slice (some ⟨g9, 0, none⟩) (n + 1) cap9)) = V2 at HO2 hbV2 HF2 ⊢
            clear hat9 k1 k2 k3 k4 k5 k6 k7 far9 pf9 hown9 hblk9 hbel9 hbY9 x1 x2 x3 s0 s1 g2 t1 KI HR1 u1 u2 u3 u4
            have hp2 := HO2.out.parts (x := (⟨y.rv, y.row, y.n + 1, y.bv, bs.take k ++ (.slice (some ⟨g9, 0, none⟩) (n + 1) cap9, l.take ix ++ (⟨ck, cn, cs⟩, 0) :: l.drop ix) :: bs.drop (k + 1)⟩ : GO)) (by simp)
            have hlen2 : (bs.take k ++ (Value.slice (some ⟨g9, 0, none⟩) (n + 1) cap9, l.take ix ++ (⟨ck, cn, cs⟩, 0) :: l.drop ix) :: bs.drop (k + 1)).length = na := by simp; omega
            have hl2 : (l.take ix ++ ((⟨ck, cn, cs⟩ : Cel), (0 : Int)) :: l.drop ix).length = n + 1 := by have := HN.out; simp; omega
            have hget : (l.take ix ++ ((⟨ck, cn, cs⟩ : Cel), (0 : Int)) :: l.drop ix).getD ix default = (⟨ck, cn, cs⟩, 0) := by
              have e1 : (l.take ix).length = ix := by have := HN.out; rw [List.length_take]; omega
              rw [List.getD_eq_getElem?_getD, List.getElem?_append_right (by omega), e1, Nat.sub_self]
              rfl
            have hbg := hp2.2.1
            dsimp only at hbg
            rw [HYB.out, hlen2] at hbg
            have t1 : V2.cell? ⟨bb, k, none⟩ = some (.slice (some ⟨g9, 0, none⟩) (n + 1) cap9) := own_cell2 hbg k _ (by rw [List.map_append, List.map_cons, List.getElem?_append_right (by rw [List.length_map, htk]; omega), List.length_map, htk, Nat.sub_self]; rfl)
            have hot := hp2.2.2 (.slice (some ⟨g9, 0, none⟩) (n + 1) cap9, l.take ix ++ (⟨ck, cn, cs⟩, 0) :: l.drop ix) (by simp)
            unfold ownT at hot
            dsimp only at hot
            rw [hl2] at hot
            have zt := (talCells_at (l.take ix ++ ((⟨ck, cn, cs⟩ : Cel), (0 : Int)) :: l.drop ix) ix (by rw [hl2]; omega)).2.2.2
            rw [hget] at zt
            dsimp only at zt
            have m3 : V2.cell? ⟨g9, ix * 4 + 3, none⟩ = some (.int .i64 0) := own_cell2 hot _ _ zt
            have fz := ch.own_frozen hot (ix * 4 + 3)
            have hg9 := (ch.own_lt hot (g := g9) rfl).1
            have g2 : V2.cell? ⟨g, A.length * 3 + 2, none⟩ = some (.slice (some ⟨bb, 0, none⟩) na bc) := by
              have hh := HO2.out.head
              have eln := own_is hh
              injection eln with _ eln _
              rw [← eln] at hh
              have zc := (gcells_at (A ++ (⟨y.rv, y.row, y.n + 1, y.bv, bs.take k ++ (.slice (some ⟨g9, 0, none⟩) (n + 1) cap9, l.take ix ++ (⟨ck, cn, cs⟩, 0) :: l.drop ix) :: bs.drop (k + 1)⟩ : GO) :: B) A.length (by simp)).2.2
              have eAy : (A ++ (⟨y.rv, y.row, y.n + 1, y.bv, bs.take k ++ (.slice (some ⟨g9, 0, none⟩) (n + 1) cap9, l.take ix ++ (⟨ck, cn, cs⟩, 0) :: l.drop ix) :: bs.drop (k + 1)⟩ : GO) :: B).getD A.length default = (⟨y.rv, y.row, y.n + 1, y.bv, bs.take k ++ (.slice (some ⟨g9, 0, none⟩) (n + 1) cap9, l.take ix ++ (⟨ck, cn, cs⟩, 0) :: l.drop ix) :: bs.drop (k + 1)⟩ : GO) := by simp [List.getD_eq_getElem?_getD]
              rw [eAy] at zc
              dsimp only at zc
              have hq := own_cell2 hh _ _ zc
              rw [HYB.out] at hq
              exact hq
            have H9 : Hid (OG (V2.setCell ⟨g9, ix * 4 + 3, none⟩ (.int .i64 1)) W0.heap.size (.slice (some ⟨g, 0, none⟩) LN cap) (A ++ (⟨y.rv, y.row, y.n + 1, y.bv, bs.take k ++ (.slice (some ⟨g9, 0, none⟩) (n + 1) cap9, addT l ⟨ck, cn, cs⟩) :: bs.drop (k + 1)⟩ : GO) :: B)) := by
              have h := HO2.out.putT (x := (⟨y.rv, y.row, y.n + 1, y.bv, bs.take k ++ (.slice (some ⟨g9, 0, none⟩) (n + 1) cap9, l.take ix ++ (⟨ck, cn, cs⟩, 0) :: l.drop ix) :: bs.drop (k + 1)⟩ : GO)) rfl ix (by rw [hl2]; omega) 1
              rw [hget] at h
              dsimp only at h
              have e1 : (l.take ix).length = ix := by have := HN.out; rw [List.length_take]; omega
              have e2 := set_mid (l.take ix) (l.drop ix) ((⟨ck, cn, cs⟩ : Cel), (0 : Int)) (⟨ck, cn, cs⟩, 1)
              rw [e1] at e2
              rw [e2] at h
              rw [HAD.out, if_neg (by decide)]
              exact h
            have HB1 : Hid (bsAt aggs r (k + 1) y.bs (bs.take k ++ (.slice (some ⟨g9, 0, none⟩) (n + 1) cap9, addT l ⟨ck, cn, cs⟩) :: bs.drop (k + 1))) := by
              have h := bsAt_next HBS.out (by rw [hbl]; exact hkn) (by rw [HFC.out]; exact hfn) (.slice (some ⟨g9, 0, none⟩) (n + 1) cap9)
              rw [HBD.out, HFC.out] at h
              dsimp only at h
              rw [Int.toNat_natCast, HC.out] at h
              exact h
            have HS1 : Hid (∀ b ∈ bs.take k ++ (.slice (some ⟨g9, 0, none⟩) (n + 1) cap9, addT l ⟨ck, cn, cs⟩) :: bs.drop (k + 1), ∀ K, b.1.ownBlock = some K → Owned E0 K ∨ w.heap.size ≤ K) := fun b hb K hK => by
              rcases List.mem_append.1 hb with h | h
              · exact HS.out b (List.mem_of_mem_take h) K hK
              · rcases List.mem_cons.1 h with h | h
                · rw [h] at hK; cases hK; exact HF2.out.2
                · exact HS.out b (List.mem_of_mem_drop h) K hK
            have HF3 : Hid ((∀ K, K < w.heap.size → ¬ Owned E0 K → (V2.setCell ⟨g9, ix * 4 + 3, none⟩ (.int .i64 1)).heap[K]? = w.heap[K]?) ∧ w.heap.size ≤ (V2.setCell ⟨g9, ix * 4 + 3, none⟩ (.int .i64 1)).heap.size) := ⟨fun K hK h1 => (heap_setCell_other _ _ _ _ (fun e => by
              rcases HF2.out.2 with h2 | h2
              · exact h1 (by rw [e]; exact h2)
              · dsimp only at e; omega)).trans (HF2.out.1.1 K hK h1), by simp [World.setCell]; exact HF2.out.1.2⟩
            have j1 : (ix : Int) < ((n + 1 : Nat) : Int) := by omega
            have j2 : (ix : Int) < (n : Int) + 1 := by omega
            clear hp2 hbg hot zt hget hl2 hlen2
            go_wp2
            go_roundw
            case rel => exact ⟨k + 1, by omega, by go_num, hbV2.setCell (p := ⟨g9, ix * 4 + 3, none⟩) hg9 _, HF3, _, HB1.out, HS1, H9⟩
            case measure => simp [intOf]; omega
    · have hke : k = na := by omega
      subst hke
      have HE : Hid (bsAt aggs r k y.bs bs) := HBS.out
      go_wp2
      exact bodyPost_end (v := .tuple #[]) (by simp [results, Tryz.results86, go_sem]) rfl ⟨rfl, ⟨bs, HE.out, HR.out⟩, hbr, HF.out.1, HF.out.2⟩
end Go.Proofs.YtbfbgdinhiglaaaGreat.gr
