/- bufferBegun: what must be in any case. -/
import Derived.Test.YtnfknkihiapgiaaBufBox
namespace Go.Proofs.Ytnfknkihiapgiaa.bf
open Go.ChangeShapes Go.WideShapes Go.ChangeAt Go.RowKit
open vl
set_option linter.unusedVariables false
set_option linter.unusedSimpArgs false
attribute [local go_sem] Oper.semAt_some
def en (i : Int) : Ent := ⟨⟨#[]⟩, i, i, [], false⟩
def em (i : Int) : EM := ⟨⟨#[]⟩, i, i, (none, 0, 0), false⟩
def bb : Nat → Buf
  | 0 => ⟨1, [], []⟩
  | 1 => ⟨1, [en 3], []⟩
  | 2 => ⟨1, [], [[en 2, en 3]]⟩
  | _ => ⟨1, [en 1], [[en 2, en 3]]⟩
def bl0 : Nat → List Ent
  | 0 => [en 3]
  | 1 => [en 2, en 3]
  | _ => [en 1]
theorem em_en (w : World) (i : Int) : ER w (em i) (en i) := ⟨rfl, rfl, rfl, rfl, rfl, fun j hj => absurd hj (Nat.not_lt_zero j)⟩
theorem en_wf (i : Int) : wfE (en i) := ⟨by show (0 : Nat) ≤ _; omega, fun c hc => (by cases hc), by show (0 : Nat) ≤ _; omega⟩
theorem en_wp (i : Int) (h1 : 1 ≤ i) (h2 : i ≤ 3) : wfP (plOf (en i)) := ⟨by show (0 : Nat) ≤ _; omega, ⟨by show _ ≤ i; omega, by show i ≤ _; omega⟩, ⟨by show _ ≤ i; omega, by show i ≤ _; omega⟩⟩
theorem en_fine (i : Int) (h1 : 1 ≤ i) (h2 : i ≤ 3) : fineE (en i) := by
  refine ⟨⟨[], ⟨by show (0 : Nat) ≤ 8; omega, fun c hc => by cases hc⟩, rfl⟩, rfl, ?_, ?_, ?_⟩
  · have : i = 1 ∨ i = 2 ∨ i = 3 := by omega
    rcases this with rfl | rfl | rfl <;> decide
  · show 0 ≤ i; omega
  · show i ≤ _; omega
theorem en_lt {i j : Int} (h : i < j) : ltP (en i) (en j) := .inr ⟨rfl, .inl h⟩
theorem bb_put (k : Nat) (hk : k < 3) : putB (bb k) (bl0 k) = bb (k + 1) ∧ (bl0 k).Perm ((bb k).mem ++ [en (3 - k)]) ∧ Rise (bl0 k) ∧ hasB (entsB (bb k)) (plOf (en (3 - k))) = false ∧ (entsB (bb k)).length ≠ 4096 := by
  have : k = 0 ∨ k = 1 ∨ k = 2 := by omega
  rcases this with rfl | rfl | rfl
  · exact ⟨rfl, List.Perm.refl _, List.pairwise_singleton _ _, by decide, by decide⟩
  · refine ⟨rfl, List.Perm.swap _ _ _, ?_, by decide, by decide⟩
    exact List.pairwise_cons.2 ⟨fun y hy => (by have : y = en 3 := by simpa using hy
                                                rw [this]; exact en_lt (by decide)), List.pairwise_singleton _ _⟩
  · exact ⟨rfl, List.Perm.refl _, List.pairwise_singleton _ _, by decide, by decide⟩
theorem scan_is : (entsB (bb 3)).filter (inScan ⟨#[]⟩ 2 9) = [en 2, en 3] := by decide
theorem rise23 : Rise [en 2, en 3] := List.pairwise_cons.2 ⟨fun y hy => (by have : y = en 3 := by simpa using hy
                                                                            rw [this]; exact en_lt (by decide)), List.pairwise_singleton _ _⟩
theorem IsB.len1 {w : World} {base : Nat} {x : BX} {b : Buf} (h : IsB w base x b) : x.m.1.2.1 = b.mem.length ∧ x.rs.length = b.runs.length := by
  have h1 := OE_part (p := x.m) h.ob.mem
  exact ⟨h1.1.1.trans h.ob.mem.len, h.ob.rlen⟩
set_option maxRecDepth 100000 in
set_option maxHeartbeats 8000000 in
theorem begun_any (w : World) : Calls Try.prog 12 #[] w fun e w' => e = .returned (.bool true) ∧ Below w.heap.size w w' := by
  have KN : Hid (∀ w1, Calls Try.prog 7 #[.int .i64 1] w1 fun e w' => e = .returned (.tuple #[.agg #[.int .i64 1, .slice none 0 0, .slice none 0 0], .int .i64 0]) ∧ Below w1.heap.size w1 w') := fun w1 => new_ok 1 w1 (by decide)
  have KP : Hid (∀ k x w1, k < 3 → IsB w1 w.heap.size x (bb k) → Calls Try.prog 8 #[bufV (bb k) x, (em (3 - k)).val] w1 fun r w' => (∃ x', r = .returned (.tuple #[bufV (bb (k + 1)) x', .int .i64 0]) ∧ IsB w' w1.heap.size x' (bb (k + 1))) ∧ Below w1.heap.size w1 w') := fun k x w1 hk h => by
    obtain ⟨p1, p2, p3, p4, p5⟩ := bb_put k hk
    have := put_to (bb k) x (em (3 - k)) (en (3 - k)) (bl0 k) w.heap.size w1 h (em_en w1 _) (en_wf _) (en_wp _ (by omega) (by omega)) (en_fine _ (by omega) (by omega)) p4 p5 p2 p3
    rwa [p1] at this
  have KS : Hid (∀ x w1, IsB w1 w.heap.size x (bb 3) → Calls Try.prog 20 #[bufV (bb 3) x, .string ⟨#[]⟩, .int .i64 2, .int .i64 9] w1 fun r w' => (∃ g c, r = .returned (.tuple #[.slice (some ⟨g, 0, none⟩) 2 c, .int .i64 0]) ∧ w'.cell? ⟨g, 1, none⟩ = some (.int .i64 2) ∧ w'.cell? ⟨g, 6, none⟩ = some (.int .i64 3)) ∧ Below w1.heap.size w1 w') := fun x w1 h => by
    refine (scan_ok (bb 3) x ⟨#[]⟩ 2 9 w1 h.ob.at h.wf h.small (errB_zero h.ok)).mono ?_
    rintro r w' ⟨⟨hh, es', l', rfl, hpm, hby, hoe⟩, hb⟩
    have hn : (l'.map plOf).Nodup := (perm_once hpm).2 (h.ok.once.sublist (List.filter_sublist.map _))
    rw [scan_is] at hpm
    have e0 : l' = [en 2, en 3] := rise_one hpm (rise_of hby hn) rise23
    subst e0
    obtain ⟨g, hg⟩ := hd_slice hoe (by decide)
    have hlen : es'.length = 2 := hoe.len
    rw [hg, hlen] at hoe
    have hat := OE.at (ad := some ⟨g, 0, none⟩) (cap := hh.2.2) (es := es') (l := [en 2, en 3]) (w := w') (base := w1.heap.size) (by rw [hlen]; exact hoe)
    obtain ⟨b0, o0, e1, _, t0, _⟩ := hat 0 (by omega)
    obtain ⟨b1, o1, e2, _, t1, _⟩ := hat 1 (by omega)
    cases e1
    cases e2
    have r0 := (hoe.rows 0 (by decide)).time
    have r1 := (hoe.rows 1 (by decide)).time
    rw [r0] at t0
    rw [r1] at t1
    refine ⟨⟨g, hh.2.2, ?_, t0, t1⟩, hb⟩
    rw [hg, hlen]; rfl
  have KT : Hid (∀ x w1, IsB w1 w.heap.size x (bb 3) → Calls Try.prog 8 #[bufV (bb 3) x, (em 2).val] w1 fun r w' => r = .returned (.tuple #[.agg #[.int .i64 0, .slice none 0 0, .slice none 0 0], .int .i64 10]) ∧ Below w1.heap.size w1 w') := fun x w1 h =>
    put_twice (bb 3) x (em 2) (en 2) w1 h.ob.at h.wf h.small (errB_zero h.ok) (em_en w1 2) (en_wf 2) (fineB_yes (en_fine 2 (by decide) (by decide))) (by decide)
  have HL : Hid (∀ k, (bb k).lim = 1) := fun k => by
    show (bb k).lim = 1
    match k with
    | 0 => rfl
    | 1 => rfl
    | 2 => rfl
    | _ + 3 => rfl
  go_enter Try.func12, Try.ntmps12
  go_wp2_with fail
  refine (KN.out _).mono ?_
  rintro e w1 ⟨rfl, hb1⟩
  have hB0 : BoxB (w1.alloc (.cells #[.int .i64 1, .slice none 0 0, .slice none 0 0] 25)) w1.heap.size (bb 0) x0 := BoxB_new w1 (bb 0) x0
  have hbx : Below w.heap.size w (w1.alloc (.cells #[.int .i64 1, .slice none 0 0, .slice none 0 0] 25)) := hb1.alloc hb1.size _
  have hI0 : IsB (w1.alloc (.cells #[.int .i64 1, .slice none 0 0, .slice none 0 0] 25)) w.heap.size x0 (bb 0) := IsB_new hbx.size (by decide)
  have hle := hb1.size
  go_wp2
  generalize w1.alloc (.cells #[.int .i64 1, .slice none 0 0, .slice none 0 0] 25) = W0 at *
  obtain ⟨B, hBB⟩ : ∃ z, w1.heap.size = z := ⟨_, rfl⟩
  rw [hBB] at hB0 hle ⊢
  clear hBB hb1
  go_loopw [3, 4] (fun i _ wr => ∃ (k : Nat) (x : BX), k ≤ 3 ∧ i = .int .i64 (3 - k) ∧ IsB wr w.heap.size x (bb k) ∧ BoxB wr B (bb k) x ∧ Below w.heap.size w wr) (fun i _ _ => (intOf i).toNat)
  case atStart => exact ⟨0, x0, by omega, rfl, hI0, hB0, hbx⟩
  case round =>
    obtain ⟨k, x, hk, rfl, hI, hB, hbr⟩ := hrel
    by_cases hlt : k < 3
    · have hk1 : (3 : Int) - (k : Int) > 0 := by omega
      have HIS : Hid (IsB wr w.heap.size x (bb k)) := hI
      have HBX : Hid (BoxB wr B (bb k) x) := hB
      have c0 := hB.c0
      have c1 := hB.c1
      have c2 := hB.c2
      have fr := hB.fr
      have lt := hB.lt
      rw [HL.out] at c0
      have KPk : Hid (Calls Try.prog 8 #[.agg #[.int .i64 1, hdV x.m.1, .slice x.ra x.rs.length x.rc], .agg #[.string ⟨#[]⟩, .int .i64 (3 - k), .int .i64 (3 - k), .slice none 0 0, .bool false]] wr fun r w' => (∃ x', r = .returned (.tuple #[bufV (bb (k + 1)) x', .int .i64 0]) ∧ IsB w' wr.heap.size x' (bb (k + 1))) ∧ Below wr.heap.size wr w') := by
        have := KP.out k x wr hlt hI
        unfold bufV at this
        rw [HL.out] at this
        exact this
      clear hI hB
      obtain ⟨ra, rc, ⟨⟨m1, m2, m3⟩, ml⟩, rs⟩ := x
      unfold hdV at KPk c1
      dsimp only at KPk c1 c2
      obtain ⟨rn, hrn⟩ : ∃ z, rs.length = z := ⟨_, rfl⟩
      rw [hrn] at KPk c2
      clear hrn
      go_wp2_with fail
      refine KPk.out.mono ?_
      rintro e w2 ⟨⟨⟨ra', rc', ⟨⟨a1, a2, a3⟩, ml'⟩, rs'⟩, rfl, hI2⟩, hb2⟩
      have HI2 : Hid (IsB w2 w.heap.size ⟨ra', rc', ((a1, a2, a3), ml'), rs'⟩ (bb (k + 1))) := hI2.mono hbr.size
      have HB2 := (HBX.out.below hb2)
      have HB2' : Hid (BoxB w2 B (bb k) ⟨ra, rc, ((m1, m2, m3), ml), rs⟩) := HB2
      have d0 := cell_later hb2 c0
      have d1 := cell_later hb2 c1
      have d2 := cell_later hb2 c2
      have fr2 := HB2.fr
      have hbw2 := hbr.trans (hb2.mono hbr.size)
      unfold bufV hdV
      rw [HL.out]
      dsimp only
      obtain ⟨rn', hrn'⟩ : ∃ z, rs'.length = z := ⟨_, rfl⟩
      have HRN : Hid (rs'.length = rn') := hrn'
      rw [hrn']
      clear HB2 hI2 hrn'
      go_wp2
      go_roundw
      case rel =>
        refine ⟨k + 1, ⟨ra', rc', ((a1, a2, a3), ml'), rs'⟩, by omega, by go_num, ?_, ?_, ?_⟩
        · exact HI2.out.set3 HB2'.out.ty _ _ _
        · have := HB2'.out.set (b' := bb (k + 1)) (x' := ⟨ra', rc', ((a1, a2, a3), ml'), rs'⟩)
          rw [HL.out] at this
          unfold hdV at this
          dsimp only at this
          rw [HRN.out] at this
          exact this
        · exact ((hbw2.setCell (by dsimp only; omega) _).setCell (by dsimp only; omega) _).setCell (by dsimp only; omega) _
      case measure => simp [intOf]; omega
    · have hk3 : k = 3 := by omega
      subst hk3
      have HIS : Hid (IsB wr w.heap.size x (bb 3)) := hI
      have HBX : Hid (BoxB wr B (bb 3) x) := hB
      have c0 := hB.c0
      have c1 := hB.c1
      have c2 := hB.c2
      have lt := hB.lt
      obtain ⟨hm2, hrn⟩ := hI.len1
      rw [HL.out] at c0
      have KSx : Hid (Calls Try.prog 20 #[.agg #[.int .i64 1, hdV x.m.1, .slice x.ra x.rs.length x.rc], .string ⟨#[]⟩, .int .i64 2, .int .i64 9] wr fun r w' => (∃ g c, r = .returned (.tuple #[.slice (some ⟨g, 0, none⟩) 2 c, .int .i64 0]) ∧ w'.cell? ⟨g, 1, none⟩ = some (.int .i64 2) ∧ w'.cell? ⟨g, 6, none⟩ = some (.int .i64 3)) ∧ Below wr.heap.size wr w') := by
        have := KS.out x wr hI
        unfold bufV at this
        rw [HL.out] at this
        exact this
      have KTx : Hid (∀ w1, Below wr.heap.size wr w1 → Calls Try.prog 8 #[.agg #[.int .i64 1, hdV x.m.1, .slice x.ra x.rs.length x.rc], .agg #[.string ⟨#[]⟩, .int .i64 2, .int .i64 2, .slice none 0 0, .bool false]] w1 fun r w' => r = .returned (.tuple #[.agg #[.int .i64 0, .slice none 0 0, .slice none 0 0], .int .i64 10]) ∧ Below w1.heap.size w1 w') := fun w1 hb => by
        have := KT.out x w1 (HIS.out.below hb)
        unfold bufV at this
        rw [HL.out] at this
        exact this
      clear hI hB
      obtain ⟨ra, rc, ⟨⟨m1, m2, m3⟩, ml⟩, rs⟩ := x
      unfold hdV at KSx KTx c1
      dsimp only at KSx KTx c1 c2 hm2 hrn
      rw [show (bb 3).mem.length = 1 from rfl] at hm2
      rw [show (bb 3).runs.length = 1 from rfl] at hrn
      subst hm2
      rw [hrn] at KSx KTx c2
      clear hrn
      go_wp2_with fail
      refine KSx.out.mono ?_
      rintro e w2 ⟨⟨g, c, rfl, t0, t1⟩, hb2⟩
      have d0 := cell_later hb2 c0
      have d1 := cell_later hb2 c1
      have d2 := cell_later hb2 c2
      have hbw2 := hbr.trans (hb2.mono hbr.size)
      go_wp2_with fail
      refine (KTx.out _ hb2).mono ?_
      rintro e w3 ⟨rfl, hb3⟩
      have f0 := cell_later hb3 d0
      have f1 := cell_later hb3 d1
      have f2 := cell_later hb3 d2
      have s0 := cell_later hb3 t0
      have s1 := cell_later hb3 t1
      have lB : B < w3.heap.size := World.block_lt_of_cell? _ _ f0
      have lg : g < w3.heap.size := World.block_lt_of_cell? _ _ s0
      have hbw3 := hbw2.trans (hb3.mono hbw2.size)
      go_wp2
      go_ret
      exact ⟨rfl, hbw3.alloc hbw3.size _⟩
end Go.Proofs.Ytnfknkihiapgiaa.bf
