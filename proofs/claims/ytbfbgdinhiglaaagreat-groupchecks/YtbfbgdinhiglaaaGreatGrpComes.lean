/- A row comes to a group of one's own: comes, where its cell stands behind the bag's last. -/
import Derived.Test.YtbfbgdinhiglaaaGreatGrpOne
import Derived.Test.YtbfbgdinhiglaaaGreatMgPlnB
namespace Go.Proofs.YtbfbgdinhiglaaaGreat.gr
open Go.ChangeShapes Go.WideShapes Go.ChangeAt Go.RowKit
open vl pl bt
set_option linter.unusedVariables false
set_option linter.unusedSimpArgs false
attribute [local go_sem] Oper.semAt_some
theorem find_end (ta : Option Addr) (tc : Nat) (L : List Tal) (c : Cel) (w : World) (hl : L.length ≤ 1000) (ha : bagAt w ta L) (hlt : ∀ t ∈ L, cmpC t.1 c < 0) :
    Calls Tryz.prog 128 #[.slice ta L.length tc, .agg #[.int .i64 c.k, .int .i64 c.n, .string c.s]] w fun e w' => e = .returned (.tuple #[.int .i64 L.length, .bool false]) ∧ Below w.heap.size w w' := by
  have hat : ∀ i, i < L.length → cmpC (L.getD i default).1 c < 0 := fun i hi => hlt _ (by rw [List.getD_eq_getElem?_getD, List.getElem?_eq_getElem hi]; exact List.getElem_mem hi)
  refine (find_any ta tc L c w (by omega) ha (fun i j _ hj _ => hat i (by omega))).mono ?_
  rintro e w' ⟨⟨i, hi, rfl, h1, h2⟩, hb⟩
  have : i = L.length := by
    rcases Nat.lt_or_ge i L.length with h | h
    · have := h2 i (Nat.le_refl _) h
      have := hat i h
      omega
    · omega
  subst this
  exact ⟨by simp, hb⟩
set_option maxRecDepth 100000 in
set_option maxHeartbeats 8000000 in
theorem comes_end (p : Pln) (x : PA) (W0 w : World) (hbW : Below W0.heap.size W0 w) (hp : planAt W0 p x) (hpa : p.aggs = [(1, 0), (2, 1)]) {gb gc : Nat} {oa : Option Addr} {oc : Nat} {r0 : List Cel} {N : Int} {bb : Nat} {ta : Option Addr} {tc : Nat} {L : List Tal} (h1 : One w W0.heap.size gb gc oa oc r0 N bb ta tc L)
    (ra : Option Addr) (rc : Nat) (r : List Cel) (hr : vl.rowAt W0 ra r) (hrl : r.length = 4) (hL : L.length ≤ 1000) (hlt : ∀ t ∈ L, cmpC t.1 (r.getD 1 default) < 0) (hN : 0 ≤ N ∧ N ≤ 1000) :
    Calls Tryz.prog 86 #[planV p x, .pointer (some ⟨gb, 0, none⟩), .slice ra 4 rc] w fun e w' => e = .returned (.tuple #[]) ∧ (∃ ta' tc', One w' W0.heap.size gb gc oa oc r0 (N + 1) bb ta' tc' (L ++ [(r.getD 1 default, 1)])) ∧ Below W0.heap.size W0 w' ∧ (∀ B, B < w.heap.size → B ≠ gb → B ≠ bb → (Value.slice ta L.length tc).ownBlock ≠ some B → w'.heap[B]? = w.heap[B]?) ∧ w.heap.size ≤ w'.heap.size := by
  obtain ⟨rb, ro, er, y1, y2, y3⟩ := hr 1 (by omega)
  obtain ⟨⟨ck, cn, cs⟩, hc⟩ : ∃ c, r.getD 1 default = c := ⟨_, rfl⟩
  rw [hc] at y1 y2 y3 hlt ⊢
  dsimp only at y1 y2 y3
  subst er
  obtain ⟨ab, ao, ea, a00, a01⟩ := hp.a 0 (by rw [hpa]; decide)
  obtain ⟨ab', ao', ea', a10, a11⟩ := hp.a 1 (by rw [hpa]; decide)
  rw [ea] at ea'
  cases ea'
  rw [hpa] at a00 a01 a10 a11
  simp at a00 a01 a10 a11
  have HO : Hid (One w W0.heap.size gb gc oa oc r0 N bb ta tc L) := h1
  have q1 := own_cell h1.own 1 _ rfl
  have f1 := ch.own_frozen h1.own 1
  have hgb := ch.own_lt h1.own (g := gb) rfl
  have HLT : Hid (∀ t ∈ L, cmpC t.1 ⟨ck, cn, cs⟩ < 0) := hlt
  have hN1 := hN.1
  have hN2 := hN.2
  have i0 : IntKind.i64.wrap (N + 1) = N + 1 := by rw [IntKind.wrap_i64]; omega
  obtain ⟨kind, mode, low, high, size, limit, left, right, lkeys, rkeys, grouped, group, aggs⟩ := p
  obtain ⟨la, lc, rr, rc', lk, lkc, rk, rkc, pga, pgc, ag, ac⟩ := x
  dsimp only at hpa ea
  subst hpa ea
  unfold planV
  dsimp only
  clear hp hr hlt h1 hN hc hrl
  have lne : gb ≠ w.heap.size := by omega
  go_enter Tryz.func86, Tryz.ntmps86
  go_wp2
  generalize hV : (World.alloc (World.setCell w _ _) _) = V
  have HV : Hid (One V W0.heap.size gb gc oa oc r0 (N + 1) bb ta tc L) := by rw [← hV]; exact (HO.out.putN (N + 1)).below ((Below.refl _ _).alloc (Nat.le_refl _) _)
  have hbV : Below W0.heap.size W0 V := by rw [← hV]; exact (hbW.setCell (p := ⟨gb, 1, none⟩) hgb.1 _).alloc (by simp [World.setCell]; exact hbW.size) _
  have HF0 : Hid ((∀ B, B < w.heap.size → B ≠ gb → B ≠ bb → (Value.slice ta L.length tc).ownBlock ≠ some B → V.heap[B]? = w.heap[B]?) ∧ w.heap.size ≤ V.heap.size) := by
    rw [← hV]
    exact ⟨fun B hB h1 h2 h3 => (Below.heap_alloc _ _ B (by simp [World.setCell]; omega)).trans (heap_setCell_other _ _ _ _ h1), by simp [World.setCell]⟩
  clear hV HO q1 f1 hgb hbW lne
  go_loopw [20] (fun t wr => ∃ k : Nat, k ≤ 2 ∧ t = .int .i64 k ∧ Below W0.heap.size W0 wr ∧ Hid ((∀ B, B < w.heap.size → B ≠ gb → B ≠ bb → (Value.slice ta L.length tc).ownBlock ≠ some B → wr.heap[B]? = w.heap[B]?) ∧ w.heap.size ≤ wr.heap.size) ∧ ∃ ta1 tc1, (k ≤ 1 → ta1 = ta ∧ tc1 = tc) ∧ Hid (One wr W0.heap.size gb gc oa oc r0 (N + 1) bb ta1 tc1 (if k ≤ 1 then L else L ++ [(⟨ck, cn, cs⟩, 1)]))) (fun t _ => 2 - (intOf t).toNat)
  case atStart => exact ⟨0, by omega, rfl, hbV, HF0, ta, tc, fun _ => ⟨rfl, rfl⟩, by simpa using HV⟩
  case round =>
    clear HV hbV HF0
    obtain ⟨k, hk, rfl, hbr, HF, ta1, tc1, hsame, HR⟩ := hrel
    have b00 := cell_later hbr a00
    have b01 := cell_later hbr a01
    have b10 := cell_later hbr a10
    have b11 := cell_later hbr a11
    have z1 := cell_later hbr y1
    have z2 := cell_later hbr y2
    have z3 := cell_later hbr y3
    have hk3 : k = 0 ∨ k = 1 ∨ k = 2 := by omega
    rcases hk3 with rfl | rfl | rfl
    · simp only [show (0 : Nat) ≤ 1 from by omega, if_true] at HR
      go_wp2
      have H9 := HR.out.below ((Below.refl wr.heap.size wr).alloc (Nat.le_refl _) (.cells #[.int .i64 1, .int .i64 0] 60))
      have HF1 : Hid ((∀ B, B < w.heap.size → B ≠ gb → B ≠ bb → (Value.slice ta L.length tc).ownBlock ≠ some B → (wr.alloc (.cells #[.int .i64 1, .int .i64 0] 60)).heap[B]? = w.heap[B]?) ∧ w.heap.size ≤ (wr.alloc (.cells #[.int .i64 1, .int .i64 0] 60)).heap.size) := ⟨fun B hB h1 h2 h3 => (Below.heap_alloc _ _ B (Nat.lt_of_lt_of_le hB HF.out.2)).trans (HF.out.1 B hB h1 h2 h3), by simp; exact Nat.le_trans HF.out.2 (Nat.le_succ _)⟩
      go_roundw
      case rel => exact ⟨1, by omega, rfl, hbr.alloc hbr.size _, HF1, ta1, tc1, fun _ => hsame (by omega), by rw [if_pos (by omega)]; exact H9⟩
      case measure => simp [intOf]
    · simp only [Nat.le_refl, if_true] at HR
      obtain ⟨e1, e2⟩ := hsame (by omega)
      subst e1 e2
      go_wp2
      generalize hV1 : (World.alloc wr _) = V1
      have hA : Below wr.heap.size wr V1 := by rw [← hV1]; exact (Below.refl _ _).alloc (Nat.le_refl _) _
      have HR1 : Hid (One V1 W0.heap.size gb gc oa oc r0 (N + 1) bb ta1 tc1 L) := HR.out.below hA
      have hbV : Below W0.heap.size W0 V1 := by rw [← hV1]; exact hbr.alloc hbr.size _
      have s0 : V1.cell? ⟨wr.heap.size, 0, none⟩ = some (.int .i64 2) := by subst hV1; go_simp
      have s1 : V1.cell? ⟨wr.heap.size, 1, none⟩ = some (.int .i64 1) := by subst hV1; go_simp
      have g2 := own_cell HR1.out.own 2 _ rfl
      have t1 := own_cell HR1.out.bags 1 _ rfl
      have x1 : V1.cell? ⟨rb, ro + 3, none⟩ = some (.int .i64 ck) := by simpa using cell_later hbV y1
      have x2 : V1.cell? ⟨rb, ro + 4, none⟩ = some (.int .i64 cn) := by simpa [Nat.add_assoc] using cell_later hbV y2
      have x3 : V1.cell? ⟨rb, ro + 5, none⟩ = some (.string cs) := by simpa [Nat.add_assoc] using cell_later hbV y3
      have KF : Hid (∀ w1, Below V1.heap.size V1 w1 → Calls Tryz.prog 128 #[.slice ta1 L.length tc1, .agg #[.int .i64 ck, .int .i64 cn, .string cs]] w1 fun e w' => e = .returned (.tuple #[.int .i64 L.length, .bool false]) ∧ Below w1.heap.size w1 w') := fun w1 hb => find_end ta1 tc1 L ⟨ck, cn, cs⟩ w1 hL (ownT_at (HR1.out.below hb).tal).1 HLT.out
      have KI : Hid (∀ w1, Below V1.heap.size V1 w1 → Calls Tryz.prog 132 #[.slice ta1 L.length tc1, .int .i64 L.length, .slice (some ⟨w1.heap.size, 0, none⟩) 1 1] (w1.alloc (.cells #[.int .i64 ck, .int .i64 cn, .string cs, .int .i64 0] 82)) fun e w' => ∃ g cap2, e = .returned (.slice (some ⟨g, 0, none⟩) (L.length + 1) cap2) ∧ w'.ownsRow W0.heap.size 82 4 (.slice (some ⟨g, 0, none⟩) (L.length + 1) cap2) (L.length + 1) (talCells L ++ [.int .i64 ck, .int .i64 cn, .string cs, .int .i64 0]) ∧ (w1.alloc (.cells #[.int .i64 ck, .int .i64 cn, .string cs, .int .i64 0] 82)).grownBy w' (Value.slice ta1 L.length tc1).ownBlock ∧ ((Value.slice ta1 L.length tc1).ownBlock = some g ∨ g = w1.heap.size + 1)) := fun w1 hb => by
        have hO := (HR1.out.below hb).below ((Below.refl w1.heap.size w1).alloc (Nat.le_refl _) (.cells #[.int .i64 ck, .int .i64 cn, .string cs, .int .i64 0] 82))
        refine (insT_end ta1 L.length tc1 (talCells L) W0.heap.size w1.heap.size ck cn cs 0 _ hO.tal (by omega) hO.low (by go_simp) (by go_simp) (by go_simp) (by go_simp)).mono ?_
        rintro e w' ⟨g, cap2, h1, h2, h3, h4, _⟩
        exact ⟨g, cap2, h1, h2, h3, by simpa using h4⟩
      have ntg : some gb ≠ (Value.slice ta1 L.length tc1).ownBlock := fun e => own_apart HR1.out.own HR1.out.tal (by decide) (g := gb) rfl e.symm
      have ntb : some bb ≠ (Value.slice ta1 L.length tc1).ownBlock := fun e => own_apart HR1.out.bags HR1.out.tal (by decide) (g := bb) rfl e.symm
      have low1 : ∀ b, b < W0.heap.size → some b ≠ (Value.slice ta1 L.length tc1).ownBlock := fun b hb e => by have := (ch.own_lt HR1.out.tal e.symm).1; omega
      have LOWB : Hid (rb < W0.heap.size) := World.block_lt_of_cell? _ _ y1
      have hiw : some wr.heap.size ≠ (Value.slice ta1 L.length tc1).ownBlock := fun e => by have := (ch.own_lt HR.out.tal e.symm).2; omega
      have HWB : Hid (wr.heap.size ≠ bb) := fun e => by have := (ch.own_lt HR.out.bags (g := bb) rfl).2; omega
      have NT : Hid (some gb ≠ (Value.slice ta1 L.length tc1).ownBlock ∧ some bb ≠ (Value.slice ta1 L.length tc1).ownBlock ∧ some rb ≠ (Value.slice ta1 L.length tc1).ownBlock ∧ some wr.heap.size ≠ (Value.slice ta1 L.length tc1).ownBlock) := ⟨ntg, ntb, low1 _ LOWB.out, hiw⟩
      clear hV1 ntg ntb low1 hiw z1 z2 z3 b00 b01 b10 b11 a00 a01 a10 a11 y1 y2 y3 HR
      obtain ⟨n, hn⟩ : ∃ n, L.length = n := ⟨_, rfl⟩
      have HN : Hid (L.length = n) := hn
      rw [hn] at KF KI t1 NT hL
      clear hn
      go_region_held3 (fun w' => w'.cell? ⟨gb, 2, none⟩ = some (.slice (some ⟨bb, 0, none⟩) 2 2) ∧ w'.cell? ⟨bb, 1, none⟩ = some (.slice ta1 n tc1) ∧ w'.cell? ⟨rb, ro + 3, none⟩ = some (.int .i64 ck) ∧ w'.cell? ⟨rb, ro + 4, none⟩ = some (.int .i64 cn) ∧ w'.cell? ⟨rb, ro + 5, none⟩ = some (.string cs) ∧ w'.cell? ⟨wr.heap.size, 0, none⟩ = some (.int .i64 2) ∧ w'.cell? ⟨wr.heap.size, 1, none⟩ = some (.int .i64 1)) (first | exact ⟨cell_later hQ1 g2, cell_later hQ1 t1, cell_later hQ1 x1, cell_later hQ1 x2, cell_later hQ1 x3, cell_later hQ1 s0, cell_later hQ1 s1⟩ | go_keep)
        (first | (go_at_call 128; refine (KF.out _ (Below.refl _ _).drew).mono ?_; rintro e y9 ⟨rfl, hy9⟩; have hQ1 : Below V1.heap.size V1 y9 := (Below.refl _ _).drew.trans hy9))
      replace g2 := cell_later hQ1 g2
      replace t1 := cell_later hQ1 t1
      replace x1 := cell_later hQ1 x1
      replace x2 := cell_later hQ1 x2
      replace x3 := cell_later hQ1 x3
      replace s0 := cell_later hQ1 s0
      replace s1 := cell_later hQ1 s1
      have HSB : Hid (gb < y9.heap.size ∧ bb < y9.heap.size ∧ rb < y9.heap.size ∧ wr.heap.size < y9.heap.size) := ⟨World.block_lt_of_cell? _ _ g2, World.block_lt_of_cell? _ _ t1, World.block_lt_of_cell? _ _ x1, World.block_lt_of_cell? _ _ s0⟩
      have j0 : (0 : Int) ≤ (n : Int) := by omega
      go_wp2
      have u1 := HSB.out.1
      have u2 := HSB.out.2.1
      have u3 := HSB.out.2.2.1
      have u4 := HSB.out.2.2.2
      have n1 : gb ≠ bb := fun e => own_apart HR1.out.own HR1.out.bags (by decide) (g := gb) rfl (by rw [e]; rfl)
      have n2 : rb ≠ bb := fun e => by have h1 := (ch.own_lt HR1.out.bags (g := bb) rfl).1; have h2 := LOWB.out; omega
      have n3 : wr.heap.size ≠ bb := HWB.out
      refine wp_region_held_drew (S := (fun w' => w'.cell? ⟨gb, 2, none⟩ = some (.slice (some ⟨bb, 0, none⟩) 2 2) ∧ w'.cell? ⟨rb, ro + 3, none⟩ = some (.int .i64 ck) ∧ w'.cell? ⟨rb, ro + 4, none⟩ = some (.int .i64 cn) ∧ w'.cell? ⟨rb, ro + 5, none⟩ = some (.string cs) ∧ w'.cell? ⟨wr.heap.size, 0, none⟩ = some (.int .i64 2) ∧ w'.cell? ⟨wr.heap.size, 1, none⟩ = some (.int .i64 1))) (by kernel_rfl) ⟨by go_simp, by go_simp, by go_simp, by go_simp, by go_simp, by go_simp⟩ (fun hHeld => ?_)
      refine takeH (v := ?_) 0 (some 46) rfl (by kernel_rfl) (by kernel_rfl) (by kernel_rfl) (fun _ _ _ h => h) rfl rfl ?_ hHeld ?_
      rotate_left
      · intro w' hSw; (try dsimp only at hSw); first | (go_simp; done) | (go_simp; with_reducible rfl)
      try simp only [Act.put, List.setIfInBounds_toArray, List.set_cons_zero, List.set_cons_succ]
      refine takeH (v := ?_) 1 (some 47) rfl (by kernel_rfl) (by kernel_rfl) (by kernel_rfl) (fun _ _ _ h => h) rfl rfl ?_ hHeld ?_
      rotate_left
      · intro w' hSw; (try dsimp only at hSw); first | (go_simp; done) | (go_simp; with_reducible rfl)
      try simp only [Act.put, List.setIfInBounds_toArray, List.set_cons_zero, List.set_cons_succ]
      refine takeH (v := ?_) 2 (some 48) rfl (by kernel_rfl) (by kernel_rfl) (by kernel_rfl) (fun _ _ _ h => h) rfl rfl ?_ hHeld ?_
      rotate_left
      · intro w' hSw; (try dsimp only at hSw); first | (go_simp; done) | (go_simp; with_reducible rfl)
      try simp only [Act.put, List.setIfInBounds_toArray, List.set_cons_zero, List.set_cons_succ]
      refine takeH (v := ?_) 3 (some 49) rfl (by kernel_rfl) (by kernel_rfl) (by kernel_rfl) (fun _ _ _ h => h) rfl rfl ?_ hHeld ?_
      rotate_left
      · intro w' hSw; (try dsimp only at hSw); first | (go_simp; done) | (go_simp; with_reducible rfl)
      try simp only [Act.put, List.setIfInBounds_toArray, List.set_cons_zero, List.set_cons_succ]
      refine takeH (v := ?_) 4 (some 50) rfl (by kernel_rfl) (by kernel_rfl) (by kernel_rfl) (fun _ _ _ h => h) rfl rfl ?_ hHeld ?_
      rotate_left
      · intro w' hSw; (try dsimp only at hSw); first | (go_simp; done) | (go_simp; with_reducible rfl)
      try simp only [Act.put, List.setIfInBounds_toArray, List.set_cons_zero, List.set_cons_succ]
      refine takeH (v := ?_) 5 (some 51) rfl (by kernel_rfl) (by kernel_rfl) (by kernel_rfl) (fun _ _ _ h => h) rfl rfl ?_ hHeld ?_
      rotate_left
      · intro w' hSw; (try dsimp only at hSw); first | (go_simp; done) | (go_simp; with_reducible rfl)
      try simp only [Act.put, List.setIfInBounds_toArray, List.set_cons_zero, List.set_cons_succ]
      refine takeH (v := ?_) 6 (some 52) rfl (by kernel_rfl) (by kernel_rfl) (by kernel_rfl) (fun _ _ _ h => h) rfl rfl ?_ hHeld ?_
      rotate_left
      · intro w' hSw; (try dsimp only at hSw); first | (go_simp; done) | (go_simp; with_reducible rfl)
      try simp only [Act.put, List.setIfInBounds_toArray, List.set_cons_zero, List.set_cons_succ]
      refine takeH (v := ?_) 7 (some 53) rfl (by kernel_rfl) (by kernel_rfl) (by kernel_rfl) (fun _ _ _ h => h) rfl rfl ?_ hHeld ?_
      rotate_left
      · intro w' hSw; (try dsimp only at hSw); first | (go_simp; done) | (go_simp; with_reducible rfl)
      try simp only [Act.put, List.setIfInBounds_toArray, List.set_cons_zero, List.set_cons_succ]
      refine takeH (v := ?_) 8 (some 54) rfl (by kernel_rfl) (by kernel_rfl) (by kernel_rfl) (fun _ _ _ h => h) rfl rfl ?_ hHeld ?_
      rotate_left
      · intro w' hSw; (try dsimp only at hSw); first | (go_simp; done) | (go_simp; with_reducible rfl)
      try simp only [Act.put, List.setIfInBounds_toArray, List.set_cons_zero, List.set_cons_succ]
      refine takeH (v := ?_) 9 (some 55) rfl (by kernel_rfl) (by kernel_rfl) (by kernel_rfl) (fun _ _ _ h => h) rfl rfl ?_ hHeld ?_
      rotate_left
      · intro w' hSw; (try dsimp only at hSw); first | (go_simp; done) | (go_simp; with_reducible rfl)
      try simp only [Act.put, List.setIfInBounds_toArray, List.set_cons_zero, List.set_cons_succ]
      refine takeH (v := ?_) 10 (some 56) rfl (by kernel_rfl) (by kernel_rfl) (by kernel_rfl) (fun _ _ _ h => h) rfl rfl ?_ hHeld ?_
      rotate_left
      · intro w' hSw; (try dsimp only at hSw); first | (go_simp; done) | (go_simp; with_reducible rfl)
      try simp only [Act.put, List.setIfInBounds_toArray, List.set_cons_zero, List.set_cons_succ]
      refine takeH (v := ?_) 12 (some 58) rfl (by kernel_rfl) (by kernel_rfl) (by kernel_rfl) (fun _ _ _ h => h) rfl rfl ?_ hHeld ?_
      rotate_left
      · intro w' hSw; (try dsimp only at hSw); first | (go_simp; done) | (go_simp; with_reducible rfl)
      try simp only [Act.put, List.setIfInBounds_toArray, List.set_cons_zero, List.set_cons_succ]
      refine takeH (v := ?_) 13 (some 59) rfl (by kernel_rfl) (by kernel_rfl) (by kernel_rfl) (fun _ _ _ h => h) rfl rfl ?_ hHeld ?_
      rotate_left
      · intro w' hSw; (try dsimp only at hSw); first | (go_simp; done) | (go_simp; with_reducible rfl)
      try simp only [Act.put, List.setIfInBounds_toArray, List.set_cons_zero, List.set_cons_succ]
      refine takeH (v := ?_) 14 (some 60) rfl (by kernel_rfl) (by kernel_rfl) (by kernel_rfl) (fun _ _ _ h => h) rfl rfl ?_ hHeld ?_
      rotate_left
      · intro w' hSw; (try dsimp only at hSw); first | (go_simp; done) | (go_simp; with_reducible rfl)
      try simp only [Act.put, List.setIfInBounds_toArray, List.set_cons_zero, List.set_cons_succ]
      refine takeH (v := ?_) 15 (some 61) rfl (by kernel_rfl) (by kernel_rfl) (by kernel_rfl) (fun _ _ _ h => h) rfl rfl ?_ hHeld ?_
      rotate_left
      · intro w' hSw; (try dsimp only at hSw); first | (go_simp; done) | (go_simp; with_reducible rfl)
      try simp only [Act.put, List.setIfInBounds_toArray, List.set_cons_zero, List.set_cons_succ]
      refine takeH (v := ?_) 16 (some 62) rfl (by kernel_rfl) (by kernel_rfl) (by kernel_rfl) (fun _ _ _ h => h) rfl rfl ?_ hHeld ?_
      rotate_left
      · intro w' hSw; (try dsimp only at hSw); first | (go_simp; done) | (go_simp; with_reducible rfl)
      try simp only [Act.put, List.setIfInBounds_toArray, List.set_cons_zero, List.set_cons_succ]
      refine takeH (v := ?_) 17 (some 63) rfl (by kernel_rfl) (by kernel_rfl) (by kernel_rfl) (fun _ _ _ h => h) rfl rfl ?_ hHeld ?_
      rotate_left
      · intro w' hSw; (try dsimp only at hSw); first | (go_simp; done) | (go_simp; with_reducible rfl)
      try simp only [Act.put, List.setIfInBounds_toArray, List.set_cons_zero, List.set_cons_succ]
      refine takeH (v := ?_) 18 (some 64) rfl (by kernel_rfl) (by kernel_rfl) (by kernel_rfl) (fun _ _ _ h => h) rfl rfl ?_ hHeld ?_
      rotate_left
      · intro w' hSw; (try dsimp only at hSw); first | (go_simp; done) | (go_simp; with_reducible rfl)
      try simp only [Act.put, List.setIfInBounds_toArray, List.set_cons_zero, List.set_cons_succ]
      refine wpAnyH_ready (rs := [11, 19]) (by kernel_rfl) (by simp) ?_
      refine AllReadyH.cons rfl (fun K hK => ?_) (AllReadyH.cons rfl (fun K hK => ?_) AllReadyH.nil)
      · go_simp
        refine hK.out _ _ hHeld (fun hHeld => ?_)
        clear hK K
        try simp only [Act.put, List.setIfInBounds_toArray, List.set_cons_zero, List.set_cons_succ]
        refine wpAnyH_ready (rs := [19]) (by kernel_rfl) (by simp) ?_
        refine AllReadyH.cons rfl (fun K hK => ?_) AllReadyH.nil
        go_simp
        refine hK.out _ _ ⟨cell_later ((Below.refl _ _).alloc (Nat.le_refl _) _) hHeld.1, cell_later ((Below.refl _ _).alloc (Nat.le_refl _) _) hHeld.2.1, cell_later ((Below.refl _ _).alloc (Nat.le_refl _) _) hHeld.2.2.1, cell_later ((Below.refl _ _).alloc (Nat.le_refl _) _) hHeld.2.2.2.1, cell_later ((Below.refl _ _).alloc (Nat.le_refl _) _) hHeld.2.2.2.2.1, cell_later ((Below.refl _ _).alloc (Nat.le_refl _) _) hHeld.2.2.2.2.2⟩ (fun hHeld => ?_)
        clear hK K
        try simp only [Act.put, List.setIfInBounds_toArray, List.set_cons_zero, List.set_cons_succ]
        refine wpAnyH_ready (rs := [20]) (by kernel_rfl) (by simp) ?_
        refine AllReadyH.cons rfl (fun K hK => ?_) AllReadyH.nil
        go_simp
        refine (KI.out _ hQ1.drew).mono ?_
        rintro e w2 ⟨g9, cap9, rfl, hown9, hgrow9, hat9⟩
        have hb9 : Below V1.heap.size V1 (y9.drew.alloc (.cells #[.int .i64 ck, .int .i64 cn, .string cs, .int .i64 0] 82)) := hQ1.drew.alloc (by simpa using hQ1.size) _
        have pf9 : w2.frozen? ⟨bb, 1, none⟩ = false := (hgrow9.frozen_far (⟨bb, 1, none⟩ : Addr) (by simp; have := HSB.out.2.1; omega) NT.out.2.1).trans (ch.own_frozen (HR1.out.below hb9).bags 1)
        have far9 : ∀ {B of : Nat} {v : Value}, some B ≠ (Value.slice ta1 n tc1).ownBlock → B < y9.heap.size → y9.cell? ⟨B, of, none⟩ = some v → w2.cell? ⟨B, of, none⟩ = some v := fun hB hl hc => (hgrow9.cell_far (⟨_, _, none⟩ : Addr) (by simp; omega) hB).trans (cell_later ((Below.refl _ _).drew.alloc (by simp) _) hc)
        have k2 := far9 NT.out.2.1 HSB.out.2.1 t1
        have k1 := far9 NT.out.1 HSB.out.1 g2
        have k3 := far9 NT.out.2.2.1 HSB.out.2.2.1 x1
        have k4 := far9 NT.out.2.2.1 HSB.out.2.2.1 x2
        have k5 := far9 NT.out.2.2.1 HSB.out.2.2.1 x3
        have k6 := far9 NT.out.2.2.2 HSB.out.2.2.2 s0
        have k7 := far9 NT.out.2.2.2 HSB.out.2.2.2 s1
        go_wp2_with fail
        refine hK.out _ _ ⟨k1, k3, k4, k5, k6, k7⟩ (fun hHeld => ?_)
        clear hK K
        try simp only [Act.put, List.setIfInBounds_toArray, List.set_cons_zero, List.set_cons_succ]
        refine wpAnyH_ready (rs := [21]) (by kernel_rfl) (by simp) ?_
        refine AllReadyH.cons rfl (fun K hK => ?_) AllReadyH.nil
        go_simp
        refine hK.out _ _ hHeld (fun hHeld => ?_)
        clear hK K
        try simp only [Act.put, List.setIfInBounds_toArray, List.set_cons_zero, List.set_cons_succ]
        refine wpAnyH_ready (rs := [22]) (by kernel_rfl) (by simp) ?_
        refine AllReadyH.cons rfl (fun K hK => ?_) AllReadyH.nil
        go_simp
        refine hK.out _ _ ⟨by go_simp, by go_simp, by go_simp, by go_simp, by go_simp, by go_simp⟩ (fun hHeld => ?_)
        clear hK K hHeld
        try simp only [Act.put, List.setIfInBounds_toArray, List.set_cons_zero, List.set_cons_succ]
        refine wpAnyH_done (by kernel_rfl) ?_ _
        have hL1 : (L ++ [((⟨ck, cn, cs⟩ : Cel), (0 : Int))]).length = n + 1 := by rw [List.length_append, HN.out]; rfl
        have HO2 : Hid (One (w2.setCell ⟨bb, 1, none⟩ (.slice (some ⟨g9, 0, none⟩) (n + 1) cap9)) W0.heap.size gb gc oa oc r0 (N + 1) bb (some ⟨g9, 0, none⟩) cap9 (L ++ [(⟨ck, cn, cs⟩, 0)])) := by
          have e := HN.out
          subst e
          exact HR1.out.grow hb9 hgrow9 hown9
        have hbb := (ch.own_lt HR1.out.bags (g := bb) rfl).1
        have hb2 : Below W0.heap.size W0 w2 := (hbV.trans (hb9.mono hbV.size)).grown hgrow9 (Nat.le_trans hbV.size hb9.size) (fun k hk => (ch.own_lt HR1.out.tal (by rw [HN.out]; exact hk)).1)
        have HF2 : Hid ((∀ B, B < w.heap.size → B ≠ gb → B ≠ bb → (Value.slice ta1 n tc1).ownBlock ≠ some B → (w2.setCell ⟨bb, 1, none⟩ (.slice (some ⟨g9, 0, none⟩) (n + 1) cap9)).heap[B]? = w.heap[B]?) ∧ w.heap.size ≤ (w2.setCell ⟨bb, 1, none⟩ (.slice (some ⟨g9, 0, none⟩) (n + 1) cap9)).heap.size ∧ ∀ B, B < w.heap.size → (Value.slice ta1 n tc1).ownBlock ≠ some B → B ≠ g9) := by
          have hz9 : w.heap.size ≤ y9.heap.size := Nat.le_trans HF.out.2 (Nat.le_trans hA.size hQ1.size)
          refine ⟨fun B hB h1 h2 h3 => ?_, by simp [World.setCell]; exact Nat.le_trans hz9 (Nat.le_trans (by simp) hgrow9.size), fun B hB h3 e => ?_⟩
          · have hB1 : B < wr.heap.size := Nat.lt_of_lt_of_le hB HF.out.2
            rw [heap_setCell_other _ _ _ _ h2, hgrow9.block B (by simp; omega) (fun e => h3 e.symm), Below.heap_alloc _ _ B (by simp; omega)]
            exact (hQ1.block B (Nat.lt_of_lt_of_le hB1 hA.size)).trans ((hA.block B hB1).trans (HF.out.1 B hB h1 h2 (by rw [HN.out]; exact h3)))
          · rcases hat9 with h | h
            · exact h3 (by rw [e]; exact h)
            · simp at h; omega
        have hbV2 : Below W0.heap.size W0 (w2.setCell ⟨bb, 1, none⟩ (.slice (some ⟨g9, 0, none⟩) (n + 1) cap9)) := hb2.setCell (p := ⟨bb, 1, none⟩) hbb _
        generalize (w2.setCell ⟨bb, 1, none⟩ (.slice (some ⟨g9, 0, none⟩) (n + 1) cap9)) = V2 at HO2 hbV2 HF2 ⊢
        clear hat9 k1 k2 k3 k4 k5 k6 k7 far9 pf9 hgrow9 hown9 hb9 hb2 HSB NT x1 x2 x3 s0 s1 g2 t1 KF KI HR1
        have g2 := own_cell HO2.out.own 2 _ rfl
        have t1 := own_cell HO2.out.bags 1 _ rfl
        rw [hL1] at t1
        have m3 : V2.cell? ⟨g9, n * 4 + 3, none⟩ = some (.int .i64 0) := own_cell HO2.out.tal _ _ (by
          rw [talCells_app, List.getElem?_append_right (by rw [talCells_len, HN.out]; omega), talCells_len, HN.out, show n * 4 + 3 - n * 4 = 3 by omega]; rfl)
        have fz := ch.own_frozen HO2.out.tal (n * 4 + 3)
        have H9 : Hid (One (V2.setCell ⟨g9, n * 4 + 3, none⟩ (.int .i64 1)) W0.heap.size gb gc oa oc r0 (N + 1) bb (some ⟨g9, 0, none⟩) cap9 (L ++ [(⟨ck, cn, cs⟩, 1)])) := by
          have e := HN.out
          subst e
          exact HO2.out.putT 1
        have HF3 : Hid ((∀ B, B < w.heap.size → B ≠ gb → B ≠ bb → (Value.slice ta1 L.length tc1).ownBlock ≠ some B → (V2.setCell ⟨g9, n * 4 + 3, none⟩ (.int .i64 1)).heap[B]? = w.heap[B]?) ∧ w.heap.size ≤ (V2.setCell ⟨g9, n * 4 + 3, none⟩ (.int .i64 1)).heap.size) := ⟨fun B hB h1 h2 h3 => (heap_setCell_other _ _ _ _ (HF2.out.2.2 B hB (by rw [← HN.out]; exact h3))).trans (HF2.out.1 B hB h1 h2 (by rw [← HN.out]; exact h3)), by simp [World.setCell]; exact HF2.out.2.1⟩
        have hg9 := (ch.own_lt HO2.out.tal (g := g9) rfl).1
        have j1 : (n : Int) < ((n + 1 : Nat) : Int) := by omega
        have j2 : (n : Int) < (n : Int) + 1 := by omega
        go_wp2
        go_roundw
        case rel => exact ⟨2, by omega, rfl, hbV2.setCell (p := ⟨g9, n * 4 + 3, none⟩) hg9 _, HF3, some ⟨g9, 0, none⟩, cap9, fun h => by omega, by rw [if_neg (by omega)]; exact H9⟩
        case measure => simp [intOf]
      · go_simp
        refine hK.out _ _ ⟨cell_later ((Below.refl _ _).alloc (Nat.le_refl _) _) hHeld.1, cell_later ((Below.refl _ _).alloc (Nat.le_refl _) _) hHeld.2.1, cell_later ((Below.refl _ _).alloc (Nat.le_refl _) _) hHeld.2.2.1, cell_later ((Below.refl _ _).alloc (Nat.le_refl _) _) hHeld.2.2.2.1, cell_later ((Below.refl _ _).alloc (Nat.le_refl _) _) hHeld.2.2.2.2.1, cell_later ((Below.refl _ _).alloc (Nat.le_refl _) _) hHeld.2.2.2.2.2⟩ (fun hHeld => ?_)
        clear hK K
        try simp only [Act.put, List.setIfInBounds_toArray, List.set_cons_zero, List.set_cons_succ]
        refine wpAnyH_ready (rs := [11]) (by kernel_rfl) (by simp) ?_
        refine AllReadyH.cons rfl (fun K hK => ?_) AllReadyH.nil
        go_simp
        refine hK.out _ _ hHeld (fun hHeld => ?_)
        clear hK K
        try simp only [Act.put, List.setIfInBounds_toArray, List.set_cons_zero, List.set_cons_succ]
        refine wpAnyH_ready (rs := [20]) (by kernel_rfl) (by simp) ?_
        refine AllReadyH.cons rfl (fun K hK => ?_) AllReadyH.nil
        go_simp
        refine (KI.out _ hQ1.drew).mono ?_
        rintro e w2 ⟨g9, cap9, rfl, hown9, hgrow9, hat9⟩
        have hb9 : Below V1.heap.size V1 (y9.drew.alloc (.cells #[.int .i64 ck, .int .i64 cn, .string cs, .int .i64 0] 82)) := hQ1.drew.alloc (by simpa using hQ1.size) _
        have pf9 : w2.frozen? ⟨bb, 1, none⟩ = false := (hgrow9.frozen_far (⟨bb, 1, none⟩ : Addr) (by simp; have := HSB.out.2.1; omega) NT.out.2.1).trans (ch.own_frozen (HR1.out.below hb9).bags 1)
        have far9 : ∀ {B of : Nat} {v : Value}, some B ≠ (Value.slice ta1 n tc1).ownBlock → B < y9.heap.size → y9.cell? ⟨B, of, none⟩ = some v → w2.cell? ⟨B, of, none⟩ = some v := fun hB hl hc => (hgrow9.cell_far (⟨_, _, none⟩ : Addr) (by simp; omega) hB).trans (cell_later ((Below.refl _ _).drew.alloc (by simp) _) hc)
        have k2 := far9 NT.out.2.1 HSB.out.2.1 t1
        have k1 := far9 NT.out.1 HSB.out.1 g2
        have k3 := far9 NT.out.2.2.1 HSB.out.2.2.1 x1
        have k4 := far9 NT.out.2.2.1 HSB.out.2.2.1 x2
        have k5 := far9 NT.out.2.2.1 HSB.out.2.2.1 x3
        have k6 := far9 NT.out.2.2.2 HSB.out.2.2.2 s0
        have k7 := far9 NT.out.2.2.2 HSB.out.2.2.2 s1
        go_wp2_with fail
        refine hK.out _ _ ⟨k1, k3, k4, k5, k6, k7⟩ (fun hHeld => ?_)
        clear hK K
        try simp only [Act.put, List.setIfInBounds_toArray, List.set_cons_zero, List.set_cons_succ]
        refine wpAnyH_ready (rs := [21]) (by kernel_rfl) (by simp) ?_
        refine AllReadyH.cons rfl (fun K hK => ?_) AllReadyH.nil
        go_simp
        refine hK.out _ _ hHeld (fun hHeld => ?_)
        clear hK K
        try simp only [Act.put, List.setIfInBounds_toArray, List.set_cons_zero, List.set_cons_succ]
        refine wpAnyH_ready (rs := [22]) (by kernel_rfl) (by simp) ?_
        refine AllReadyH.cons rfl (fun K hK => ?_) AllReadyH.nil
        go_simp
        refine hK.out _ _ ⟨by go_simp, by go_simp, by go_simp, by go_simp, by go_simp, by go_simp⟩ (fun hHeld => ?_)
        clear hK K hHeld
        try simp only [Act.put, List.setIfInBounds_toArray, List.set_cons_zero, List.set_cons_succ]
        refine wpAnyH_done (by kernel_rfl) ?_ _
        have hL1 : (L ++ [((⟨ck, cn, cs⟩ : Cel), (0 : Int))]).length = n + 1 := by rw [List.length_append, HN.out]; rfl
        have HO2 : Hid (One (w2.setCell ⟨bb, 1, none⟩ (.slice (some ⟨g9, 0, none⟩) (n + 1) cap9)) W0.heap.size gb gc oa oc r0 (N + 1) bb (some ⟨g9, 0, none⟩) cap9 (L ++ [(⟨ck, cn, cs⟩, 0)])) := by
          have e := HN.out
          subst e
          exact HR1.out.grow hb9 hgrow9 hown9
        have hbb := (ch.own_lt HR1.out.bags (g := bb) rfl).1
        have hb2 : Below W0.heap.size W0 w2 := (hbV.trans (hb9.mono hbV.size)).grown hgrow9 (Nat.le_trans hbV.size hb9.size) (fun k hk => (ch.own_lt HR1.out.tal (by rw [HN.out]; exact hk)).1)
        have HF2 : Hid ((∀ B, B < w.heap.size → B ≠ gb → B ≠ bb → (Value.slice ta1 n tc1).ownBlock ≠ some B → (w2.setCell ⟨bb, 1, none⟩ (.slice (some ⟨g9, 0, none⟩) (n + 1) cap9)).heap[B]? = w.heap[B]?) ∧ w.heap.size ≤ (w2.setCell ⟨bb, 1, none⟩ (.slice (some ⟨g9, 0, none⟩) (n + 1) cap9)).heap.size ∧ ∀ B, B < w.heap.size → (Value.slice ta1 n tc1).ownBlock ≠ some B → B ≠ g9) := by
          have hz9 : w.heap.size ≤ y9.heap.size := Nat.le_trans HF.out.2 (Nat.le_trans hA.size hQ1.size)
          refine ⟨fun B hB h1 h2 h3 => ?_, by simp [World.setCell]; exact Nat.le_trans hz9 (Nat.le_trans (by simp) hgrow9.size), fun B hB h3 e => ?_⟩
          · have hB1 : B < wr.heap.size := Nat.lt_of_lt_of_le hB HF.out.2
            rw [heap_setCell_other _ _ _ _ h2, hgrow9.block B (by simp; omega) (fun e => h3 e.symm), Below.heap_alloc _ _ B (by simp; omega)]
            exact (hQ1.block B (Nat.lt_of_lt_of_le hB1 hA.size)).trans ((hA.block B hB1).trans (HF.out.1 B hB h1 h2 (by rw [HN.out]; exact h3)))
          · rcases hat9 with h | h
            · exact h3 (by rw [e]; exact h)
            · simp at h; omega
        have hbV2 : Below W0.heap.size W0 (w2.setCell ⟨bb, 1, none⟩ (.slice (some ⟨g9, 0, none⟩) (n + 1) cap9)) := hb2.setCell (p := ⟨bb, 1, none⟩) hbb _
        generalize (w2.setCell ⟨bb, 1, none⟩ (.slice (some ⟨g9, 0, none⟩) (n + 1) cap9)) = V2 at HO2 hbV2 HF2 ⊢
        clear hat9 k1 k2 k3 k4 k5 k6 k7 far9 pf9 hgrow9 hown9 hb9 hb2 HSB NT x1 x2 x3 s0 s1 g2 t1 KF KI HR1
        have g2 := own_cell HO2.out.own 2 _ rfl
        have t1 := own_cell HO2.out.bags 1 _ rfl
        rw [hL1] at t1
        have m3 : V2.cell? ⟨g9, n * 4 + 3, none⟩ = some (.int .i64 0) := own_cell HO2.out.tal _ _ (by
          rw [talCells_app, List.getElem?_append_right (by rw [talCells_len, HN.out]; omega), talCells_len, HN.out, show n * 4 + 3 - n * 4 = 3 by omega]; rfl)
        have fz := ch.own_frozen HO2.out.tal (n * 4 + 3)
        have H9 : Hid (One (V2.setCell ⟨g9, n * 4 + 3, none⟩ (.int .i64 1)) W0.heap.size gb gc oa oc r0 (N + 1) bb (some ⟨g9, 0, none⟩) cap9 (L ++ [(⟨ck, cn, cs⟩, 1)])) := by
          have e := HN.out
          subst e
          exact HO2.out.putT 1
        have HF3 : Hid ((∀ B, B < w.heap.size → B ≠ gb → B ≠ bb → (Value.slice ta1 L.length tc1).ownBlock ≠ some B → (V2.setCell ⟨g9, n * 4 + 3, none⟩ (.int .i64 1)).heap[B]? = w.heap[B]?) ∧ w.heap.size ≤ (V2.setCell ⟨g9, n * 4 + 3, none⟩ (.int .i64 1)).heap.size) := ⟨fun B hB h1 h2 h3 => (heap_setCell_other _ _ _ _ (HF2.out.2.2 B hB (by rw [← HN.out]; exact h3))).trans (HF2.out.1 B hB h1 h2 (by rw [← HN.out]; exact h3)), by simp [World.setCell]; exact HF2.out.2.1⟩
        have hg9 := (ch.own_lt HO2.out.tal (g := g9) rfl).1
        have j1 : (n : Int) < ((n + 1 : Nat) : Int) := by omega
        have j2 : (n : Int) < (n : Int) + 1 := by omega
        go_wp2
        go_roundw
        case rel => exact ⟨2, by omega, rfl, hbV2.setCell (p := ⟨g9, n * 4 + 3, none⟩) hg9 _, HF3, some ⟨g9, 0, none⟩, cap9, fun h => by omega, by rw [if_neg (by omega)]; exact H9⟩
        case measure => simp [intOf]
    · simp only [show ¬ ((2 : Nat) ≤ 1) from by omega, if_false] at HR
      go_wp2
      exact bodyPost_end (v := .tuple #[]) (by simp [results, Tryz.results86, go_sem]) rfl ⟨rfl, ⟨ta1, tc1, HR.out⟩, hbr, HF.out.1, HF.out.2⟩
end Go.Proofs.YtbfbgdinhiglaaaGreat.gr
