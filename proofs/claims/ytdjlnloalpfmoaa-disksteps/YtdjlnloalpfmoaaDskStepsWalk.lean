/- DiskSteps answers true. -/
import Derived.Test.YtdjlnloalpfmoaaDskBegun
namespace Go.Proofs.Ytdjlnloalpfmoaa.dk
open Go.ChangeShapes Go.WideShapes Go.ChangeAt Go.RowKit
set_option linter.unusedVariables false
set_option linter.unusedSimpArgs false
theorem ok_empty {c : Slt} (h : sltOk c = true) (hh : c.has = false) : c = ⟨c.safe, ⟨#[]⟩, false⟩ := by
  unfold sltOk at h
  rw [hh, Bool.false_or] at h
  have := of_decide_eq_true h
  cases c
  simp only at this hh
  subst this hh
  rfl
theorem wr_put (l : List Slt) (k : Nat) (t : ByteArray) : mapS l (fun i c => wrF k t i c) = mapS l (putF k ⟨(l.getD k default).safe, t, true⟩) := by
  refine mapS_ext (fun i hi => ?_)
  unfold wrF putF
  by_cases h : (i : Int) = k
  · have : i = k := by omega
    subst this
    simp
  · rw [if_neg h, if_neg h]
theorem sy_put (l : List Slt) (k : Nat) (h0 : ∀ i, i < l.length → sltOk (l.getD i default) = true) : mapS l (fun i c => syF k i c) = mapS l (putF k ⟨readT (l.getD k default), ⟨#[]⟩, false⟩) := by
  refine mapS_ext (fun i hi => ?_)
  unfold syF putF
  by_cases h : (i : Int) = k
  · have : i = k := by omega
    subst this
    rw [if_pos rfl]
    cases hh : (l.getD i default).has with
    | true => rw [if_pos ⟨rfl, rfl⟩]; unfold readT; rw [if_pos hh]
    | false =>
      rw [if_neg (by simp)]
      have e := ok_empty (h0 i hi) hh
      unfold readT
      rw [if_neg (by rw [hh]; decide)]
      exact e
  · rw [if_neg (by simp [h]), if_neg h]
theorem cr_put (l : List Slt) (cs : List Int) (h0 : ∀ i, i < l.length → sltOk (l.getD i default) = true) : mapS l (fun i c => crF cs i c) = mapS l (crI cs) := by
  refine mapS_ext (fun i hi => ?_)
  unfold crF crI
  cases hh : (l.getD i default).has with
  | true =>
    rw [if_pos rfl]
    unfold keptT
    by_cases h : cutAt cs i < 0
    · rw [if_pos h, if_neg (by simp; omega)]
    · rw [if_neg h, if_pos ⟨rfl, by omega⟩]
  | false =>
    rw [if_neg (by decide), if_neg (by simp)]
    exact ok_empty (h0 i hi) hh
theorem neq_is {x y : Int} (b : Bool) (h : (x != y) = b) : ∀ t, binOp .neq t (.int .i64 x) (.int .i64 y) = pure (.bool b) := fun t => by rw [binOp_neq, h]
set_option maxRecDepth 10000 in
set_option maxHeartbeats 8000000 in
theorem steps_lo (a : Option Addr) (cap : Nat) (l : List Slt) (s : Int) (t : ByteArray) (m : Int) (hm1 : m < 1) (w : World) (hl : l.length ≤ 9223372036854775807) (ha : slotsAt w a l) :
    Calls Try.prog 3 #[diskV a l.length cap, .int .i64 s, .string t, .int .i64 m] w fun e w' => e = .returned (.bool true) ∧ Below w.heap.size w w' := by
  have KB : Hid (∀ w1, Calls Try.prog 13 #[] w1 fun e w' => e = .returned (.bool true) ∧ Below w1.heap.size w1 w') := fun w1 => begun_any w1
  have KN : Hid (∀ w1, Calls Try.prog 5 #[.int .i64 m] w1 fun e w' => e = .returned (.tuple #[.agg #[.slice none 0 0], .int .i64 3]) ∧ Below w1.heap.size w1 w') := fun w1 => new_no m w1 ((betw_no m 1 8).2 (by omega))
  unfold diskV
  go_enter Try.func3, Try.ntmps3
  go_wp2_with fail
  refine (KN.out _).mono ?_
  rintro e w1 ⟨rfl, hb1⟩
  have c1 : w1.cell? ⟨w.heap.size, 0, none⟩ = some (.slice a l.length cap) := by rw [hb1.cell (p := ⟨w.heap.size, 0, none⟩) (by simp)]; go_simp
  have l1 : w.heap.size < w1.heap.size := World.block_lt_of_cell? _ _ c1
  have hb1w : Below w.heap.size w w1 := ((Below.refl _ _).alloc (Nat.le_refl _) _).trans (hb1.mono (by simp))
  go_wp2_with fail
  have c4 := cell_later ((Below.refl _ _).alloc (Nat.le_refl _) (.cells #[.slice none 0 0] 24)) c1
  have hbW := hb1w.alloc hb1w.size (.cells #[.slice none 0 0] 24)
  generalize w1.alloc (.cells #[.slice none 0 0] 24) = W at *
  by_cases hE : errS l s = 0
  · obtain ⟨hD0, k, rfl, hk⟩ := errS_ok hE
    obtain ⟨h1, h8, hok⟩ := errD_ok hD0
    have KW : Hid (∀ w1, Below w.heap.size w w1 → Calls Try.prog 7 #[diskV a l.length cap, .int .i64 k, .string t] w1 fun e w' => (∃ ad cp, e = .returned (.tuple #[diskV ad l.length cp, .int .i64 0]) ∧ slotsAt w' ad (mapS l (putF k ⟨(l.getD k default).safe, t, true⟩))) ∧ Below w1.heap.size w1 w') := fun w1 hb => (write_yes a cap l k t w1 hl (slotsAt_below ha hb) hE h8).mono (fun e w' ⟨⟨ad, cp, x1, x2⟩, x3⟩ => ⟨⟨ad, cp, x1, by rw [wr_put] at x2; exact (ownS_at x2).1⟩, x3⟩)
    have KS : Hid (∀ w1, Below w.heap.size w w1 → Calls Try.prog 8 #[diskV a l.length cap, .int .i64 k] w1 fun e w' => (∃ ad cp, e = .returned (.tuple #[diskV ad l.length cp, .int .i64 0]) ∧ slotsAt w' ad (mapS l (putF k ⟨readT (l.getD k default), ⟨#[]⟩, false⟩))) ∧ Below w1.heap.size w1 w') := fun w1 hb => (sync_yes a cap l k w1 hl (slotsAt_below ha hb) hE h8).mono (fun e w' ⟨⟨ad, cp, x1, x2⟩, x3⟩ => ⟨⟨ad, cp, x1, by rw [sy_put l k hok] at x2; exact (ownS_at x2).1⟩, x3⟩)
    have KR : Hid (∀ w1, Below w.heap.size w w1 → Calls Try.prog 9 #[diskV a l.length cap, .int .i64 k] w1 fun e w' => e = .returned (.tuple #[.string (readT (l.getD k default)), .int .i64 0]) ∧ Below w1.heap.size w1 w') := fun w1 hb => read_yes a cap l k w1 hl (slotsAt_below ha hb) hk hE
    have KE : Hid (∀ w1, Below w.heap.size w w1 → Calls Try.prog 10 #[diskV a l.length cap, .int .i64 k] w1 fun e w' => e = .returned (.int .i64 0) ∧ Below w1.heap.size w1 w') := fun w1 hb => by
      have := slotError_any a cap l k w1 hl (slotsAt_below ha hb)
      rwa [hE] at this
    have KC1 : Hid (∀ w1, Below w.heap.size w w1 → Calls Try.prog 11 #[diskV a l.length cap] w1 fun e w' => e = .returned (.int .i64 0) ∧ Below w1.heap.size w1 w') := fun w1 hb => by
      have := check_any a cap l w1 hl (slotsAt_below ha hb)
      rwa [hD0] at this
    have KC2 : Hid (∀ w1, Below w.heap.size w w1 → Calls Try.prog 12 #[diskV a l.length cap] w1 fun e w' => e = .returned (.int .i64 0) ∧ Below w1.heap.size w1 w') := fun w1 hb => by
      have := rcheck_any a cap l w1 hl (slotsAt_below ha hb)
      rwa [hD0] at this
    have KWI : Hid (∀ w1, Below w.heap.size w w1 → Calls Try.prog 14 #[diskV a l.length cap, .int .i64 k, .string t] w1 fun e w' => (∃ ad cp, e = .returned (diskV ad l.length cp) ∧ slotsAt w' ad (mapS l (putF k ⟨(l.getD k default).safe, t, true⟩))) ∧ Below w1.heap.size w1 w') := fun w1 hb => (writeIn_any a cap l k t w1 h8 (slotsAt_below ha hb) hk).mono (fun e w' ⟨⟨ad, cp, x1, x2⟩, x3⟩ => ⟨⟨ad, cp, x1, (ownS_at x2).1⟩, x3⟩)
    have KSI : Hid (∀ w1, Below w.heap.size w w1 → Calls Try.prog 15 #[diskV a l.length cap, .int .i64 k] w1 fun e w' => (∃ ad cp, e = .returned (diskV ad l.length cp) ∧ slotsAt w' ad (mapS l (putF k ⟨readT (l.getD k default), ⟨#[]⟩, false⟩))) ∧ Below w1.heap.size w1 w') := fun w1 hb => (syncIn_any a cap l k w1 h8 (slotsAt_below ha hb) hk).mono (fun e w' ⟨⟨ad, cp, x1, x2⟩, x3⟩ => ⟨⟨ad, cp, x1, (ownS_at x2).1⟩, x3⟩)
    have KRI : Hid (∀ w1, Below w.heap.size w w1 → Calls Try.prog 16 #[diskV a l.length cap, .int .i64 k] w1 fun e w' => e = .returned (.string (readT (l.getD k default))) ∧ Below w1.heap.size w1 w') := fun w1 hb => readIn_any a cap l k w1 hl (slotsAt_below ha hb) hk
    obtain ⟨T, hT⟩ : ∃ z, readT (l.getD k default) = z := ⟨_, rfl⟩
    obtain ⟨R1, hR1⟩ : ∃ z, mapS l (putF k ⟨(l.getD k default).safe, t, true⟩) = z := ⟨_, rfl⟩
    obtain ⟨R2, hR2⟩ : ∃ z, mapS l (putF k ⟨readT (l.getD k default), ⟨#[]⟩, false⟩) = z := ⟨_, rfl⟩
    have e1 : R1.length = l.length := by rw [← hR1]; exact mapS_len _ _
    have e2 : R2.length = l.length := by rw [← hR2]; exact mapS_len _ _
    rw [hR1] at KW KWI
    rw [hR2] at KS KSI
    rw [hT] at KR KRI
    obtain ⟨n, hn⟩ : ∃ z, l.length = z := ⟨_, rfl⟩
    rw [hn] at KW KWI KS KSI KR KRI KE KC1 KC2 e1 e2 h8
    rw [hn] at c4
    rw [hn]
    have KQ : Hid (∀ R ad cp ad' cp' w1, (R = R1 ∨ R = R2) → slotsAt w1 ad R → slotsAt w1 ad' R → Calls Try.prog 6 #[.agg #[.slice ad n cp], .agg #[.slice ad' n cp']] w1 fun e w' => e = .returned (.bool true) ∧ Below w1.heap.size w1 w') := fun R ad cp ad' cp' w1 hR h1 h2 => by
      have hlen : R.length = n := by rcases hR with rfl | rfl <;> assumption
      have := same_any ad ad' cp cp' R R w1 h1 h2 (by omega) (by omega)
      rw [hlen] at this
      rwa [decide_eq_true rfl] at this
    clear hR1 hR2 hT hn ha hl hok hD0 hE h1 e1 e2
    unfold diskV at KW KWI KS KSI KR KRI KE KC1 KC2
    refine (KW.out W hbW).mono ?_
    rintro e w2 ⟨⟨ad, cp, rfl, sA⟩, hb2⟩
    have c42 := cell_later hb2 c4
    have hbw2 := hbW.trans (hb2.mono hbW.size)
    have l42 : w.heap.size < w2.heap.size := World.block_lt_of_cell? _ _ c42
    go_wp2_with fail
    refine (KS.out _ (hbw2.alloc hbw2.size _)).mono ?_
    rintro e w3 ⟨⟨ad2, cp2, rfl, sB⟩, hb3⟩
    have hw3 : Below w2.heap.size w2 w3 := ((Below.refl _ _).alloc (Nat.le_refl _) _).trans (hb3.mono (by simp))
    have hbw3 := hbw2.trans (hw3.mono hbw2.size)
    have sA3 := slotsAt_below sA hw3
    have c43 := cell_later hw3 c42
    have c11 : w3.cell? ⟨w2.heap.size, 0, none⟩ = some (.slice ad n cp) := by rw [hb3.cell (p := ⟨w2.heap.size, 0, none⟩) (by simp)]; go_simp
    have l43 : w.heap.size < w3.heap.size := World.block_lt_of_cell? _ _ c43
    have l11 : w2.heap.size < w3.heap.size := World.block_lt_of_cell? _ _ c11
    clear hb3 sA
    go_wp2_with fail
    refine (KR.out _ (hbw3.alloc hbw3.size _)).mono ?_
    rintro e w4 ⟨rfl, hb4⟩
    have hw4 : Below w3.heap.size w3 w4 := ((Below.refl _ _).alloc (Nat.le_refl _) _).trans (hb4.mono (by simp))
    have hbw4 := hbw3.trans (hw4.mono hbw3.size)
    have sA4 := slotsAt_below sA3 hw4
    have sB4 := slotsAt_below sB hw4
    have c44 := cell_later hw4 c43
    have c114 := cell_later hw4 c11
    have c13 : w4.cell? ⟨w3.heap.size, 0, none⟩ = some (.slice ad2 n cp2) := by rw [hb4.cell (p := ⟨w3.heap.size, 0, none⟩) (by simp)]; go_simp
    clear hb4 sA3 sB
    go_wp2_with fail
    refine (KE.out _ hbw4).mono ?_
    rintro e w5 ⟨rfl, hw5⟩
    have hbw5 := hbw4.trans (hw5.mono hbw4.size)
    have sA5 := slotsAt_below sA4 hw5
    have sB5 := slotsAt_below sB4 hw5
    have c45 := cell_later hw5 c44
    have c115 := cell_later hw5 c114
    have c135 := cell_later hw5 c13
    clear sA4 sB4 c44 c43 c42 c114 c13 c11 c4
    go_wp2
    go_region_held3 (fun w' => w'.cell? ⟨w.heap.size, 0, none⟩ = some (.slice a n cap)) (first | go_keep | exact cell_later hbA c45 | exact cell_later hbF c45)
      (first
        | (go_at_call 11; refine (KC1.out w5.drew hbw5.drew).mono ?_; rintro e wA ⟨rfl, hbA⟩)
        | (go_at_call 11; refine (KC1.out wA (hbw5.drew.trans (hbA.mono hbw5.drew.size))).mono ?_; rintro e wF ⟨rfl, hbG⟩; have hbF : Below w5.heap.size w5 wF := ((Below.refl _ _).drew.trans hbA).trans (hbG.mono hbA.size))
        | (go_at_call 12; refine (KC2.out w5.drew hbw5.drew).mono ?_; rintro e wA ⟨rfl, hbA⟩)
        | (go_at_call 12; refine (KC2.out wA (hbw5.drew.trans (hbA.mono hbw5.drew.size))).mono ?_; rintro e wF ⟨rfl, hbG⟩; have hbF : Below w5.heap.size w5 wF := ((Below.refl _ _).drew.trans hbA).trans (hbG.mono hbA.size)))
    all_goals
      have sA6 := slotsAt_below sA5 hbF
      have sB6 := slotsAt_below sB5 hbF
      have c46 := cell_later hbF c45
      have c116 := cell_later hbF c115
      have c136 := cell_later hbF c135
      have hbw6 := hbw5.trans (hbF.mono hbw5.size)
      go_wp2
      go_region_held3 (fun w' => w'.cell? ⟨w.heap.size, 0, none⟩ = some (.slice a n cap) ∧ w'.cell? ⟨w2.heap.size, 0, none⟩ = some (.slice ad n cp) ∧ w'.cell? ⟨w3.heap.size, 0, none⟩ = some (.slice ad2 n cp2)) (first | go_keep | exact ⟨cell_later hQ1 c46, cell_later hQ1 c116, cell_later hQ1 c136⟩ | exact ⟨cell_later hQ2 c46, cell_later hQ2 c116, cell_later hQ2 c136⟩ | exact ⟨cell_later hQ3 c46, cell_later hQ3 c116, cell_later hQ3 c136⟩ | exact ⟨cell_later hQ4 c46, cell_later hQ4 c116, cell_later hQ4 c136⟩ | exact ⟨cell_later hQ5 c46, cell_later hQ5 c116, cell_later hQ5 c136⟩ | exact ⟨cell_later hQ6 c46, cell_later hQ6 c116, cell_later hQ6 c136⟩)
        (first
          | (go_at_call 13; refine (KB.out wF.drew).mono ?_; rintro e x1 ⟨rfl, hq1⟩; have hQ1 : Below wF.heap.size wF x1 := (Below.refl _ _).drew.trans hq1)
          | (go_at_call 14; refine (KWI.out x1 (hbw6.trans (hQ1.mono hbw6.size))).mono ?_; rintro e x2 ⟨⟨ad3, cp3, rfl, sC⟩, hq2⟩; have hQ2 : Below wF.heap.size wF x2 := hQ1.trans (hq2.mono hQ1.size))
          | (go_at_call 15; refine (KSI.out x3 (hbw6.trans (hQ3.mono hbw6.size))).mono ?_; rintro e x4 ⟨⟨ad4, cp4, rfl, sE⟩, hq4⟩; have hQ4 : Below wF.heap.size wF x4 := hQ3.trans (hq4.mono hQ3.size))
          | (go_at_call 6; refine (KQ.out R2 ad2 cp2 ad4 cp4 x4 (.inr rfl) (slotsAt_below sB6 hQ4) sE).mono ?_; rintro e x5 ⟨rfl, hq5⟩; have hQ5 : Below wF.heap.size wF x5 := hQ4.trans (hq5.mono hQ4.size))
          | (go_at_call 6; refine (KQ.out R1 ad cp ad3 cp3 x2 (.inl rfl) (slotsAt_below sA6 hQ2) sC).mono ?_; rintro e x3 ⟨rfl, hq3⟩; have hQ3 : Below wF.heap.size wF x3 := hQ2.trans (hq3.mono hQ2.size))
          | (go_at_call 16; refine (KRI.out x5 (hbw6.trans (hQ5.mono hbw6.size))).mono ?_; rintro e x6 ⟨rfl, hq6⟩; have hQ6 : Below wF.heap.size wF x6 := hQ5.trans (hq6.mono hQ5.size)))
      all_goals
        go_wp2
        go_ret
        exact ⟨rfl, hbw6.trans (hQ6.mono hbw6.size)⟩
  · have KW : Hid (∀ w1, Below w.heap.size w w1 → Calls Try.prog 7 #[diskV a l.length cap, .int .i64 s, .string t] w1 fun e w' => e = .returned (.tuple #[diskV none 0 0, .int .i64 (errS l s)]) ∧ Below w1.heap.size w1 w') := fun w1 hb => write_no a cap l s t w1 hl (slotsAt_below ha hb) hE
    have KS : Hid (∀ w1, Below w.heap.size w w1 → Calls Try.prog 8 #[diskV a l.length cap, .int .i64 s] w1 fun e w' => e = .returned (.tuple #[diskV none 0 0, .int .i64 (errS l s)]) ∧ Below w1.heap.size w1 w') := fun w1 hb => sync_no a cap l s w1 hl (slotsAt_below ha hb) hE
    have KR : Hid (∀ w1, Below w.heap.size w w1 → Calls Try.prog 9 #[diskV a l.length cap, .int .i64 s] w1 fun e w' => e = .returned (.tuple #[.string ⟨#[]⟩, .int .i64 (errS l s)]) ∧ Below w1.heap.size w1 w') := fun w1 hb => read_no a cap l s w1 hl (slotsAt_below ha hb) hE
    have KE : Hid (∀ w1, Below w.heap.size w w1 → Calls Try.prog 10 #[diskV a l.length cap, .int .i64 s] w1 fun e w' => e = .returned (.int .i64 (errS l s)) ∧ Below w1.heap.size w1 w') := fun w1 hb => slotError_any a cap l s w1 hl (slotsAt_below ha hb)
    have KC1 : Hid (∀ w1, Below w.heap.size w w1 → Calls Try.prog 11 #[diskV a l.length cap] w1 fun e w' => e = .returned (.int .i64 (errD l)) ∧ Below w1.heap.size w1 w') := fun w1 hb => check_any a cap l w1 hl (slotsAt_below ha hb)
    have KC2 : Hid (∀ w1, Below w.heap.size w w1 → Calls Try.prog 12 #[diskV a l.length cap] w1 fun e w' => e = .returned (.int .i64 (errD l)) ∧ Below w1.heap.size w1 w') := fun w1 hb => rcheck_any a cap l w1 hl (slotsAt_below ha hb)
    obtain ⟨E, hE1⟩ : ∃ z, errS l s = z := ⟨_, rfl⟩
    obtain ⟨D, hD1⟩ : ∃ z, errD l = z := ⟨_, rfl⟩
    rw [hE1] at KW KS KR KE hE
    rw [hD1] at KC1 KC2
    obtain ⟨n, hn⟩ : ∃ z, l.length = z := ⟨_, rfl⟩
    rw [hn] at KW KS KR KE KC1 KC2
    rw [hn] at c4
    rw [hn]
    have hEb : (E == 0) = false := by simpa using hE
    have nE := neq_is (x := E) (y := E) false (by simp)
    have nD := neq_is (x := D) (y := D) false (by simp)
    clear hE1 hD1 hn ha hl hE
    unfold diskV at KW KS KR KE KC1 KC2
    refine (KW.out W hbW).mono ?_
    rintro e w2 ⟨rfl, hb2⟩
    have c42 := cell_later hb2 c4
    have hbw2 := hbW.trans (hb2.mono hbW.size)
    have l42 : w.heap.size < w2.heap.size := World.block_lt_of_cell? _ _ c42
    go_wp2_with fail
    refine (KS.out _ (hbw2.alloc hbw2.size _)).mono ?_
    rintro e w3 ⟨rfl, hb3⟩
    have hw3 : Below w2.heap.size w2 w3 := ((Below.refl _ _).alloc (Nat.le_refl _) _).trans (hb3.mono (by simp))
    have hbw3 := hbw2.trans (hw3.mono hbw2.size)
    have c43 := cell_later hw3 c42
    have c11 : w3.cell? ⟨w2.heap.size, 0, none⟩ = some (.slice none 0 0) := by rw [hb3.cell (p := ⟨w2.heap.size, 0, none⟩) (by simp)]; go_simp
    have l43 : w.heap.size < w3.heap.size := World.block_lt_of_cell? _ _ c43
    have l11 : w2.heap.size < w3.heap.size := World.block_lt_of_cell? _ _ c11
    clear hb3
    go_wp2_with fail
    refine (KR.out _ (hbw3.alloc hbw3.size _)).mono ?_
    rintro e w4 ⟨rfl, hb4⟩
    have hw4 : Below w3.heap.size w3 w4 := ((Below.refl _ _).alloc (Nat.le_refl _) _).trans (hb4.mono (by simp))
    have hbw4 := hbw3.trans (hw4.mono hbw3.size)
    have c44 := cell_later hw4 c43
    have c114 := cell_later hw4 c11
    have c13 : w4.cell? ⟨w3.heap.size, 0, none⟩ = some (.slice none 0 0) := by rw [hb4.cell (p := ⟨w3.heap.size, 0, none⟩) (by simp)]; go_simp
    clear hb4
    go_wp2_with fail
    refine (KE.out _ hbw4).mono ?_
    rintro e w5 ⟨rfl, hw5⟩
    have hbw5 := hbw4.trans (hw5.mono hbw4.size)
    have c45 := cell_later hw5 c44
    have c115 := cell_later hw5 c114
    have c135 := cell_later hw5 c13
    clear c44 c43 c42 c114 c13 c11 c4
    go_wp2
    go_region_held3 (fun w' => w'.cell? ⟨w.heap.size, 0, none⟩ = some (.slice a n cap)) (first | go_keep | exact cell_later hbA c45 | exact cell_later hbF c45)
      (first
        | (go_at_call 11; refine (KC1.out w5.drew hbw5.drew).mono ?_; rintro e wA ⟨rfl, hbA⟩)
        | (go_at_call 11; refine (KC1.out wA (hbw5.drew.trans (hbA.mono hbw5.drew.size))).mono ?_; rintro e wF ⟨rfl, hbG⟩; have hbF : Below w5.heap.size w5 wF := ((Below.refl _ _).drew.trans hbA).trans (hbG.mono hbA.size))
        | (go_at_call 12; refine (KC2.out w5.drew hbw5.drew).mono ?_; rintro e wA ⟨rfl, hbA⟩)
        | (go_at_call 12; refine (KC2.out wA (hbw5.drew.trans (hbA.mono hbw5.drew.size))).mono ?_; rintro e wF ⟨rfl, hbG⟩; have hbF : Below w5.heap.size w5 wF := ((Below.refl _ _).drew.trans hbA).trans (hbG.mono hbA.size)))
    all_goals
      have c116 := cell_later hbF c115
      have c136 := cell_later hbF c135
      have hbw6 := hbw5.trans (hbF.mono hbw5.size)
      go_wp2_with (go_at_call 13; refine (KB.out wF).mono ?_; rintro e x1 ⟨rfl, hq1⟩; have k11 := cell_later hq1 c116; have k13 := cell_later hq1 c136)
      go_ret
      exact ⟨rfl, hbw6.trans (hq1.mono hbw6.size)⟩
set_option maxRecDepth 10000 in
set_option maxHeartbeats 8000000 in
theorem steps_hi (a : Option Addr) (cap : Nat) (l : List Slt) (s : Int) (t : ByteArray) (m : Int) (hm1 : ¬ m < 1) (hm8 : m > 8) (w : World) (hl : l.length ≤ 9223372036854775807) (ha : slotsAt w a l) :
    Calls Try.prog 3 #[diskV a l.length cap, .int .i64 s, .string t, .int .i64 m] w fun e w' => e = .returned (.bool true) ∧ Below w.heap.size w w' := by
  have KB : Hid (∀ w1, Calls Try.prog 13 #[] w1 fun e w' => e = .returned (.bool true) ∧ Below w1.heap.size w1 w') := fun w1 => begun_any w1
  have KN : Hid (∀ w1, Calls Try.prog 5 #[.int .i64 m] w1 fun e w' => e = .returned (.tuple #[.agg #[.slice none 0 0], .int .i64 3]) ∧ Below w1.heap.size w1 w') := fun w1 => new_no m w1 ((betw_no m 1 8).2 (by omega))
  unfold diskV
  go_enter Try.func3, Try.ntmps3
  go_wp2_with fail
  refine (KN.out _).mono ?_
  rintro e w1 ⟨rfl, hb1⟩
  have c1 : w1.cell? ⟨w.heap.size, 0, none⟩ = some (.slice a l.length cap) := by rw [hb1.cell (p := ⟨w.heap.size, 0, none⟩) (by simp)]; go_simp
  have l1 : w.heap.size < w1.heap.size := World.block_lt_of_cell? _ _ c1
  have hb1w : Below w.heap.size w w1 := ((Below.refl _ _).alloc (Nat.le_refl _) _).trans (hb1.mono (by simp))
  go_wp2_with fail
  have c4 := cell_later ((Below.refl _ _).alloc (Nat.le_refl _) (.cells #[.slice none 0 0] 24)) c1
  have hbW := hb1w.alloc hb1w.size (.cells #[.slice none 0 0] 24)
  generalize w1.alloc (.cells #[.slice none 0 0] 24) = W at *
  by_cases hE : errS l s = 0
  · obtain ⟨hD0, k, rfl, hk⟩ := errS_ok hE
    obtain ⟨h1, h8, hok⟩ := errD_ok hD0
    have KW : Hid (∀ w1, Below w.heap.size w w1 → Calls Try.prog 7 #[diskV a l.length cap, .int .i64 k, .string t] w1 fun e w' => (∃ ad cp, e = .returned (.tuple #[diskV ad l.length cp, .int .i64 0]) ∧ slotsAt w' ad (mapS l (putF k ⟨(l.getD k default).safe, t, true⟩))) ∧ Below w1.heap.size w1 w') := fun w1 hb => (write_yes a cap l k t w1 hl (slotsAt_below ha hb) hE h8).mono (fun e w' ⟨⟨ad, cp, x1, x2⟩, x3⟩ => ⟨⟨ad, cp, x1, by rw [wr_put] at x2; exact (ownS_at x2).1⟩, x3⟩)
    have KS : Hid (∀ w1, Below w.heap.size w w1 → Calls Try.prog 8 #[diskV a l.length cap, .int .i64 k] w1 fun e w' => (∃ ad cp, e = .returned (.tuple #[diskV ad l.length cp, .int .i64 0]) ∧ slotsAt w' ad (mapS l (putF k ⟨readT (l.getD k default), ⟨#[]⟩, false⟩))) ∧ Below w1.heap.size w1 w') := fun w1 hb => (sync_yes a cap l k w1 hl (slotsAt_below ha hb) hE h8).mono (fun e w' ⟨⟨ad, cp, x1, x2⟩, x3⟩ => ⟨⟨ad, cp, x1, by rw [sy_put l k hok] at x2; exact (ownS_at x2).1⟩, x3⟩)
    have KR : Hid (∀ w1, Below w.heap.size w w1 → Calls Try.prog 9 #[diskV a l.length cap, .int .i64 k] w1 fun e w' => e = .returned (.tuple #[.string (readT (l.getD k default)), .int .i64 0]) ∧ Below w1.heap.size w1 w') := fun w1 hb => read_yes a cap l k w1 hl (slotsAt_below ha hb) hk hE
    have KE : Hid (∀ w1, Below w.heap.size w w1 → Calls Try.prog 10 #[diskV a l.length cap, .int .i64 k] w1 fun e w' => e = .returned (.int .i64 0) ∧ Below w1.heap.size w1 w') := fun w1 hb => by
      have := slotError_any a cap l k w1 hl (slotsAt_below ha hb)
      rwa [hE] at this
    have KC1 : Hid (∀ w1, Below w.heap.size w w1 → Calls Try.prog 11 #[diskV a l.length cap] w1 fun e w' => e = .returned (.int .i64 0) ∧ Below w1.heap.size w1 w') := fun w1 hb => by
      have := check_any a cap l w1 hl (slotsAt_below ha hb)
      rwa [hD0] at this
    have KC2 : Hid (∀ w1, Below w.heap.size w w1 → Calls Try.prog 12 #[diskV a l.length cap] w1 fun e w' => e = .returned (.int .i64 0) ∧ Below w1.heap.size w1 w') := fun w1 hb => by
      have := rcheck_any a cap l w1 hl (slotsAt_below ha hb)
      rwa [hD0] at this
    have KWI : Hid (∀ w1, Below w.heap.size w w1 → Calls Try.prog 14 #[diskV a l.length cap, .int .i64 k, .string t] w1 fun e w' => (∃ ad cp, e = .returned (diskV ad l.length cp) ∧ slotsAt w' ad (mapS l (putF k ⟨(l.getD k default).safe, t, true⟩))) ∧ Below w1.heap.size w1 w') := fun w1 hb => (writeIn_any a cap l k t w1 h8 (slotsAt_below ha hb) hk).mono (fun e w' ⟨⟨ad, cp, x1, x2⟩, x3⟩ => ⟨⟨ad, cp, x1, (ownS_at x2).1⟩, x3⟩)
    have KSI : Hid (∀ w1, Below w.heap.size w w1 → Calls Try.prog 15 #[diskV a l.length cap, .int .i64 k] w1 fun e w' => (∃ ad cp, e = .returned (diskV ad l.length cp) ∧ slotsAt w' ad (mapS l (putF k ⟨readT (l.getD k default), ⟨#[]⟩, false⟩))) ∧ Below w1.heap.size w1 w') := fun w1 hb => (syncIn_any a cap l k w1 h8 (slotsAt_below ha hb) hk).mono (fun e w' ⟨⟨ad, cp, x1, x2⟩, x3⟩ => ⟨⟨ad, cp, x1, (ownS_at x2).1⟩, x3⟩)
    have KRI : Hid (∀ w1, Below w.heap.size w w1 → Calls Try.prog 16 #[diskV a l.length cap, .int .i64 k] w1 fun e w' => e = .returned (.string (readT (l.getD k default))) ∧ Below w1.heap.size w1 w') := fun w1 hb => readIn_any a cap l k w1 hl (slotsAt_below ha hb) hk
    obtain ⟨T, hT⟩ : ∃ z, readT (l.getD k default) = z := ⟨_, rfl⟩
    obtain ⟨R1, hR1⟩ : ∃ z, mapS l (putF k ⟨(l.getD k default).safe, t, true⟩) = z := ⟨_, rfl⟩
    obtain ⟨R2, hR2⟩ : ∃ z, mapS l (putF k ⟨readT (l.getD k default), ⟨#[]⟩, false⟩) = z := ⟨_, rfl⟩
    have e1 : R1.length = l.length := by rw [← hR1]; exact mapS_len _ _
    have e2 : R2.length = l.length := by rw [← hR2]; exact mapS_len _ _
    rw [hR1] at KW KWI
    rw [hR2] at KS KSI
    rw [hT] at KR KRI
    obtain ⟨n, hn⟩ : ∃ z, l.length = z := ⟨_, rfl⟩
    rw [hn] at KW KWI KS KSI KR KRI KE KC1 KC2 e1 e2 h8
    rw [hn] at c4
    rw [hn]
    have KQ : Hid (∀ R ad cp ad' cp' w1, (R = R1 ∨ R = R2) → slotsAt w1 ad R → slotsAt w1 ad' R → Calls Try.prog 6 #[.agg #[.slice ad n cp], .agg #[.slice ad' n cp']] w1 fun e w' => e = .returned (.bool true) ∧ Below w1.heap.size w1 w') := fun R ad cp ad' cp' w1 hR h1 h2 => by
      have hlen : R.length = n := by rcases hR with rfl | rfl <;> assumption
      have := same_any ad ad' cp cp' R R w1 h1 h2 (by omega) (by omega)
      rw [hlen] at this
      rwa [decide_eq_true rfl] at this
    clear hR1 hR2 hT hn ha hl hok hD0 hE h1 e1 e2
    unfold diskV at KW KWI KS KSI KR KRI KE KC1 KC2
    refine (KW.out W hbW).mono ?_
    rintro e w2 ⟨⟨ad, cp, rfl, sA⟩, hb2⟩
    have c42 := cell_later hb2 c4
    have hbw2 := hbW.trans (hb2.mono hbW.size)
    have l42 : w.heap.size < w2.heap.size := World.block_lt_of_cell? _ _ c42
    go_wp2_with fail
    refine (KS.out _ (hbw2.alloc hbw2.size _)).mono ?_
    rintro e w3 ⟨⟨ad2, cp2, rfl, sB⟩, hb3⟩
    have hw3 : Below w2.heap.size w2 w3 := ((Below.refl _ _).alloc (Nat.le_refl _) _).trans (hb3.mono (by simp))
    have hbw3 := hbw2.trans (hw3.mono hbw2.size)
    have sA3 := slotsAt_below sA hw3
    have c43 := cell_later hw3 c42
    have c11 : w3.cell? ⟨w2.heap.size, 0, none⟩ = some (.slice ad n cp) := by rw [hb3.cell (p := ⟨w2.heap.size, 0, none⟩) (by simp)]; go_simp
    have l43 : w.heap.size < w3.heap.size := World.block_lt_of_cell? _ _ c43
    have l11 : w2.heap.size < w3.heap.size := World.block_lt_of_cell? _ _ c11
    clear hb3 sA
    go_wp2_with fail
    refine (KR.out _ (hbw3.alloc hbw3.size _)).mono ?_
    rintro e w4 ⟨rfl, hb4⟩
    have hw4 : Below w3.heap.size w3 w4 := ((Below.refl _ _).alloc (Nat.le_refl _) _).trans (hb4.mono (by simp))
    have hbw4 := hbw3.trans (hw4.mono hbw3.size)
    have sA4 := slotsAt_below sA3 hw4
    have sB4 := slotsAt_below sB hw4
    have c44 := cell_later hw4 c43
    have c114 := cell_later hw4 c11
    have c13 : w4.cell? ⟨w3.heap.size, 0, none⟩ = some (.slice ad2 n cp2) := by rw [hb4.cell (p := ⟨w3.heap.size, 0, none⟩) (by simp)]; go_simp
    clear hb4 sA3 sB
    go_wp2_with fail
    refine (KE.out _ hbw4).mono ?_
    rintro e w5 ⟨rfl, hw5⟩
    have hbw5 := hbw4.trans (hw5.mono hbw4.size)
    have sA5 := slotsAt_below sA4 hw5
    have sB5 := slotsAt_below sB4 hw5
    have c45 := cell_later hw5 c44
    have c115 := cell_later hw5 c114
    have c135 := cell_later hw5 c13
    clear sA4 sB4 c44 c43 c42 c114 c13 c11 c4
    go_wp2
    go_region_held3 (fun w' => w'.cell? ⟨w.heap.size, 0, none⟩ = some (.slice a n cap)) (first | go_keep | exact cell_later hbA c45 | exact cell_later hbF c45)
      (first
        | (go_at_call 11; refine (KC1.out w5.drew hbw5.drew).mono ?_; rintro e wA ⟨rfl, hbA⟩)
        | (go_at_call 11; refine (KC1.out wA (hbw5.drew.trans (hbA.mono hbw5.drew.size))).mono ?_; rintro e wF ⟨rfl, hbG⟩; have hbF : Below w5.heap.size w5 wF := ((Below.refl _ _).drew.trans hbA).trans (hbG.mono hbA.size))
        | (go_at_call 12; refine (KC2.out w5.drew hbw5.drew).mono ?_; rintro e wA ⟨rfl, hbA⟩)
        | (go_at_call 12; refine (KC2.out wA (hbw5.drew.trans (hbA.mono hbw5.drew.size))).mono ?_; rintro e wF ⟨rfl, hbG⟩; have hbF : Below w5.heap.size w5 wF := ((Below.refl _ _).drew.trans hbA).trans (hbG.mono hbA.size)))
    all_goals
      have sA6 := slotsAt_below sA5 hbF
      have sB6 := slotsAt_below sB5 hbF
      have c46 := cell_later hbF c45
      have c116 := cell_later hbF c115
      have c136 := cell_later hbF c135
      have hbw6 := hbw5.trans (hbF.mono hbw5.size)
      go_wp2
      go_region_held3 (fun w' => w'.cell? ⟨w.heap.size, 0, none⟩ = some (.slice a n cap) ∧ w'.cell? ⟨w2.heap.size, 0, none⟩ = some (.slice ad n cp) ∧ w'.cell? ⟨w3.heap.size, 0, none⟩ = some (.slice ad2 n cp2)) (first | go_keep | exact ⟨cell_later hQ1 c46, cell_later hQ1 c116, cell_later hQ1 c136⟩ | exact ⟨cell_later hQ2 c46, cell_later hQ2 c116, cell_later hQ2 c136⟩ | exact ⟨cell_later hQ3 c46, cell_later hQ3 c116, cell_later hQ3 c136⟩ | exact ⟨cell_later hQ4 c46, cell_later hQ4 c116, cell_later hQ4 c136⟩ | exact ⟨cell_later hQ5 c46, cell_later hQ5 c116, cell_later hQ5 c136⟩ | exact ⟨cell_later hQ6 c46, cell_later hQ6 c116, cell_later hQ6 c136⟩)
        (first
          | (go_at_call 13; refine (KB.out wF.drew).mono ?_; rintro e x1 ⟨rfl, hq1⟩; have hQ1 : Below wF.heap.size wF x1 := (Below.refl _ _).drew.trans hq1)
          | (go_at_call 14; refine (KWI.out x1 (hbw6.trans (hQ1.mono hbw6.size))).mono ?_; rintro e x2 ⟨⟨ad3, cp3, rfl, sC⟩, hq2⟩; have hQ2 : Below wF.heap.size wF x2 := hQ1.trans (hq2.mono hQ1.size))
          | (go_at_call 15; refine (KSI.out x3 (hbw6.trans (hQ3.mono hbw6.size))).mono ?_; rintro e x4 ⟨⟨ad4, cp4, rfl, sE⟩, hq4⟩; have hQ4 : Below wF.heap.size wF x4 := hQ3.trans (hq4.mono hQ3.size))
          | (go_at_call 6; refine (KQ.out R2 ad2 cp2 ad4 cp4 x4 (.inr rfl) (slotsAt_below sB6 hQ4) sE).mono ?_; rintro e x5 ⟨rfl, hq5⟩; have hQ5 : Below wF.heap.size wF x5 := hQ4.trans (hq5.mono hQ4.size))
          | (go_at_call 6; refine (KQ.out R1 ad cp ad3 cp3 x2 (.inl rfl) (slotsAt_below sA6 hQ2) sC).mono ?_; rintro e x3 ⟨rfl, hq3⟩; have hQ3 : Below wF.heap.size wF x3 := hQ2.trans (hq3.mono hQ2.size))
          | (go_at_call 16; refine (KRI.out x5 (hbw6.trans (hQ5.mono hbw6.size))).mono ?_; rintro e x6 ⟨rfl, hq6⟩; have hQ6 : Below wF.heap.size wF x6 := hQ5.trans (hq6.mono hQ5.size)))
      all_goals
        go_wp2
        go_ret
        exact ⟨rfl, hbw6.trans (hQ6.mono hbw6.size)⟩
  · have KW : Hid (∀ w1, Below w.heap.size w w1 → Calls Try.prog 7 #[diskV a l.length cap, .int .i64 s, .string t] w1 fun e w' => e = .returned (.tuple #[diskV none 0 0, .int .i64 (errS l s)]) ∧ Below w1.heap.size w1 w') := fun w1 hb => write_no a cap l s t w1 hl (slotsAt_below ha hb) hE
    have KS : Hid (∀ w1, Below w.heap.size w w1 → Calls Try.prog 8 #[diskV a l.length cap, .int .i64 s] w1 fun e w' => e = .returned (.tuple #[diskV none 0 0, .int .i64 (errS l s)]) ∧ Below w1.heap.size w1 w') := fun w1 hb => sync_no a cap l s w1 hl (slotsAt_below ha hb) hE
    have KR : Hid (∀ w1, Below w.heap.size w w1 → Calls Try.prog 9 #[diskV a l.length cap, .int .i64 s] w1 fun e w' => e = .returned (.tuple #[.string ⟨#[]⟩, .int .i64 (errS l s)]) ∧ Below w1.heap.size w1 w') := fun w1 hb => read_no a cap l s w1 hl (slotsAt_below ha hb) hE
    have KE : Hid (∀ w1, Below w.heap.size w w1 → Calls Try.prog 10 #[diskV a l.length cap, .int .i64 s] w1 fun e w' => e = .returned (.int .i64 (errS l s)) ∧ Below w1.heap.size w1 w') := fun w1 hb => slotError_any a cap l s w1 hl (slotsAt_below ha hb)
    have KC1 : Hid (∀ w1, Below w.heap.size w w1 → Calls Try.prog 11 #[diskV a l.length cap] w1 fun e w' => e = .returned (.int .i64 (errD l)) ∧ Below w1.heap.size w1 w') := fun w1 hb => check_any a cap l w1 hl (slotsAt_below ha hb)
    have KC2 : Hid (∀ w1, Below w.heap.size w w1 → Calls Try.prog 12 #[diskV a l.length cap] w1 fun e w' => e = .returned (.int .i64 (errD l)) ∧ Below w1.heap.size w1 w') := fun w1 hb => rcheck_any a cap l w1 hl (slotsAt_below ha hb)
    obtain ⟨E, hE1⟩ : ∃ z, errS l s = z := ⟨_, rfl⟩
    obtain ⟨D, hD1⟩ : ∃ z, errD l = z := ⟨_, rfl⟩
    rw [hE1] at KW KS KR KE hE
    rw [hD1] at KC1 KC2
    obtain ⟨n, hn⟩ : ∃ z, l.length = z := ⟨_, rfl⟩
    rw [hn] at KW KS KR KE KC1 KC2
    rw [hn] at c4
    rw [hn]
    have hEb : (E == 0) = false := by simpa using hE
    have nE := neq_is (x := E) (y := E) false (by simp)
    have nD := neq_is (x := D) (y := D) false (by simp)
    clear hE1 hD1 hn ha hl hE
    unfold diskV at KW KS KR KE KC1 KC2
    refine (KW.out W hbW).mono ?_
    rintro e w2 ⟨rfl, hb2⟩
    have c42 := cell_later hb2 c4
    have hbw2 := hbW.trans (hb2.mono hbW.size)
    have l42 : w.heap.size < w2.heap.size := World.block_lt_of_cell? _ _ c42
    go_wp2_with fail
    refine (KS.out _ (hbw2.alloc hbw2.size _)).mono ?_
    rintro e w3 ⟨rfl, hb3⟩
    have hw3 : Below w2.heap.size w2 w3 := ((Below.refl _ _).alloc (Nat.le_refl _) _).trans (hb3.mono (by simp))
    have hbw3 := hbw2.trans (hw3.mono hbw2.size)
    have c43 := cell_later hw3 c42
    have c11 : w3.cell? ⟨w2.heap.size, 0, none⟩ = some (.slice none 0 0) := by rw [hb3.cell (p := ⟨w2.heap.size, 0, none⟩) (by simp)]; go_simp
    have l43 : w.heap.size < w3.heap.size := World.block_lt_of_cell? _ _ c43
    have l11 : w2.heap.size < w3.heap.size := World.block_lt_of_cell? _ _ c11
    clear hb3
    go_wp2_with fail
    refine (KR.out _ (hbw3.alloc hbw3.size _)).mono ?_
    rintro e w4 ⟨rfl, hb4⟩
    have hw4 : Below w3.heap.size w3 w4 := ((Below.refl _ _).alloc (Nat.le_refl _) _).trans (hb4.mono (by simp))
    have hbw4 := hbw3.trans (hw4.mono hbw3.size)
    have c44 := cell_later hw4 c43
    have c114 := cell_later hw4 c11
    have c13 : w4.cell? ⟨w3.heap.size, 0, none⟩ = some (.slice none 0 0) := by rw [hb4.cell (p := ⟨w3.heap.size, 0, none⟩) (by simp)]; go_simp
    clear hb4
    go_wp2_with fail
    refine (KE.out _ hbw4).mono ?_
    rintro e w5 ⟨rfl, hw5⟩
    have hbw5 := hbw4.trans (hw5.mono hbw4.size)
    have c45 := cell_later hw5 c44
    have c115 := cell_later hw5 c114
    have c135 := cell_later hw5 c13
    clear c44 c43 c42 c114 c13 c11 c4
    go_wp2
    go_region_held3 (fun w' => w'.cell? ⟨w.heap.size, 0, none⟩ = some (.slice a n cap)) (first | go_keep | exact cell_later hbA c45 | exact cell_later hbF c45)
      (first
        | (go_at_call 11; refine (KC1.out w5.drew hbw5.drew).mono ?_; rintro e wA ⟨rfl, hbA⟩)
        | (go_at_call 11; refine (KC1.out wA (hbw5.drew.trans (hbA.mono hbw5.drew.size))).mono ?_; rintro e wF ⟨rfl, hbG⟩; have hbF : Below w5.heap.size w5 wF := ((Below.refl _ _).drew.trans hbA).trans (hbG.mono hbA.size))
        | (go_at_call 12; refine (KC2.out w5.drew hbw5.drew).mono ?_; rintro e wA ⟨rfl, hbA⟩)
        | (go_at_call 12; refine (KC2.out wA (hbw5.drew.trans (hbA.mono hbw5.drew.size))).mono ?_; rintro e wF ⟨rfl, hbG⟩; have hbF : Below w5.heap.size w5 wF := ((Below.refl _ _).drew.trans hbA).trans (hbG.mono hbA.size)))
    all_goals
      have c116 := cell_later hbF c115
      have c136 := cell_later hbF c135
      have hbw6 := hbw5.trans (hbF.mono hbw5.size)
      go_wp2_with (go_at_call 13; refine (KB.out wF).mono ?_; rintro e x1 ⟨rfl, hq1⟩; have k11 := cell_later hq1 c116; have k13 := cell_later hq1 c136)
      go_ret
      exact ⟨rfl, hbw6.trans (hq1.mono hbw6.size)⟩
set_option maxRecDepth 10000 in
set_option maxHeartbeats 8000000 in
theorem steps_in (a : Option Addr) (cap : Nat) (l : List Slt) (s : Int) (t : ByteArray) (q : Nat) (q1 : 1 ≤ q) (q8 : q ≤ 8) (w : World) (hl : l.length ≤ 9223372036854775807) (ha : slotsAt w a l) :
    Calls Try.prog 3 #[diskV a l.length cap, .int .i64 s, .string t, .int .i64 q] w fun e w' => e = .returned (.bool true) ∧ Below w.heap.size w w' := by
  have KB : Hid (∀ w1, Calls Try.prog 13 #[] w1 fun e w' => e = .returned (.bool true) ∧ Below w1.heap.size w1 w') := fun w1 => begun_any w1
  have KN : Hid (∀ w1, Calls Try.prog 5 #[.int .i64 q] w1 fun e w' => (∃ ad cp, e = .returned (.tuple #[.agg #[.slice ad q cp], .int .i64 0]) ∧ slotsAt w' ad (noS q)) ∧ Below w1.heap.size w1 w') := fun w1 => (new_yes q w1 q1 q8).mono (fun e w' ⟨⟨ad, cp, x1, x2⟩, x3⟩ => ⟨⟨ad, cp, x1, (ownS_at x2).1⟩, x3⟩)
  have KQ0 : Hid (∀ ad cp ad' cp' w1, slotsAt w1 ad (noS q) → slotsAt w1 ad' (noS q) → Calls Try.prog 6 #[.agg #[.slice ad q cp], .agg #[.slice ad' q cp']] w1 fun e w' => e = .returned (.bool true) ∧ Below w1.heap.size w1 w') := fun ad cp ad' cp' w1 h1 h2 => by
    have := same_any ad ad' cp cp' (noS q) (noS q) w1 h1 h2 (by rw [noS_len]; omega) (by rw [noS_len]; omega)
    rw [noS_len] at this
    rwa [decide_eq_true rfl] at this
  obtain ⟨i0, hi, hz0, hz1, hz2⟩ := info_parts infoS
  have hmk : ∀ w1 : World, (Instr.makeSlice 22 (.int .i64 (q : Int)) (.int .i64 (q : Int))).run Try.prog w1 = .ok (.slice (some ⟨w1.heap.size, 0, none⟩) q q) (w1.alloc (.cells (sltCells (noS q)).toArray 47)) := fun w1 => by
    have h := run_make (P := Try.prog) w1 22 47 i0 (.agg #[.string ⟨#[]⟩, .string ⟨#[]⟩, .bool false]) Try.underlying22 hi hz0 .i64 .i64 (q : Int) (q : Int) (by omega) (by omega) (by rw [hz2]; omega) (by omega)
    rw [h, Int.toNat_natCast, hz1, ← made_slots q q8, Array.toArray_toList]
  have HS0 : Hid (∀ w1 : World, slotsAt (w1.alloc (.cells (sltCells (noS q)).toArray 47)) (some ⟨w1.heap.size, 0, none⟩) (noS q)) := fun w1 => by
    have h : ownS (w1.alloc (.cells (sltCells (noS q)).toArray 47)) w1.heap.size (.slice (some ⟨w1.heap.size, 0, none⟩) q q) (noS q) := by
      obtain ⟨w', hr, ho, _⟩ := run_make_full (P := Try.prog) w1 w1.heap.size 22 47 i0 (.agg #[.string ⟨#[]⟩, .string ⟨#[]⟩, .bool false]) 3 Try.underlying22 hi hz0 hz1 .i64 .i64 q (by rw [hz2]; omega) (by unfold maxLen; omega) (Nat.le_refl _)
      rw [hmk] at hr
      injection hr with h1 h2
      subst h2
      rw [made_slots q q8] at ho
      unfold ownS
      rw [noS_len]; exact ho
    exact (ownS_at h).1
  clear hi hz0 hz1 hz2
  obtain ⟨Z, hZ⟩ : ∃ z, (sltCells (noS q)).toArray = z := ⟨_, rfl⟩
  simp only [hZ] at hmk HS0
  clear hZ
  unfold diskV
  go_enter Try.func3, Try.ntmps3
  go_wp2_with fail
  refine (KN.out _).mono ?_
  rintro e w1 ⟨⟨ad0, cp0, rfl, s0⟩, hb1⟩
  have c1 : w1.cell? ⟨w.heap.size, 0, none⟩ = some (.slice a l.length cap) := by rw [hb1.cell (p := ⟨w.heap.size, 0, none⟩) (by simp)]; go_simp
  have l1 : w.heap.size < w1.heap.size := World.block_lt_of_cell? _ _ c1
  have hb1w : Below w.heap.size w w1 := ((Below.refl _ _).alloc (Nat.le_refl _) _).trans (hb1.mono (by simp))
  go_wp2_with fail
  have c4 := cell_later ((Below.refl _ _).alloc (Nat.le_refl _) (.cells #[.slice ad0 q cp0] 24)) c1
  have c9 : (w1.alloc (.cells #[.slice ad0 q cp0] 24)).cell? ⟨w1.heap.size, 0, none⟩ = some (.slice ad0 q cp0) := by go_simp
  have s1 := slotsAt_below s0 ((Below.refl _ _).alloc (Nat.le_refl _) (.cells #[.slice ad0 q cp0] 24))
  have hbV := hb1w.alloc hb1w.size (.cells #[.slice ad0 q cp0] 24)
  have lt9 : w1.heap.size < (w1.alloc (.cells #[.slice ad0 q cp0] 24)).heap.size := by simp
  generalize w1.alloc (.cells #[.slice ad0 q cp0] 24) = V at *
  go_region_held3 (fun w' => w'.cell? ⟨w1.heap.size, 0, none⟩ = some (.slice ad0 q cp0)) (first | go_keep | exact cell_later hbq c9)
    (first
      | (go_at_call 6; refine (KQ0.out ad0 cp0 (some ⟨V.heap.size, 0, none⟩) q (V.drew.alloc (.cells Z 47)) (slotsAt_below s1 ((Below.refl _ _).drew.alloc (Nat.le_refl _) _)) (HS0.out V.drew)).mono ?_; rintro e W ⟨rfl, hbq0⟩; have hbq : Below V.heap.size V W := ((Below.refl _ _).drew.alloc (Nat.le_refl _) _).trans (hbq0.mono (by simp))))
  all_goals
    have c4x := cell_later hbq c4
    clear c4
    have c4 := c4x
    clear c4x
    have hbW := hbV.trans (hbq.mono hbV.size)
    clear hmk HS0 s0 s1
    go_wp2_with fail
    by_cases hE : errS l s = 0
    · obtain ⟨hD0, k, rfl, hk⟩ := errS_ok hE
      obtain ⟨h1, h8, hok⟩ := errD_ok hD0
      have KW : Hid (∀ w1, Below w.heap.size w w1 → Calls Try.prog 7 #[diskV a l.length cap, .int .i64 k, .string t] w1 fun e w' => (∃ ad cp, e = .returned (.tuple #[diskV ad l.length cp, .int .i64 0]) ∧ slotsAt w' ad (mapS l (putF k ⟨(l.getD k default).safe, t, true⟩))) ∧ Below w1.heap.size w1 w') := fun w1 hb => (write_yes a cap l k t w1 hl (slotsAt_below ha hb) hE h8).mono (fun e w' ⟨⟨ad, cp, x1, x2⟩, x3⟩ => ⟨⟨ad, cp, x1, by rw [wr_put] at x2; exact (ownS_at x2).1⟩, x3⟩)
      have KS : Hid (∀ w1, Below w.heap.size w w1 → Calls Try.prog 8 #[diskV a l.length cap, .int .i64 k] w1 fun e w' => (∃ ad cp, e = .returned (.tuple #[diskV ad l.length cp, .int .i64 0]) ∧ slotsAt w' ad (mapS l (putF k ⟨readT (l.getD k default), ⟨#[]⟩, false⟩))) ∧ Below w1.heap.size w1 w') := fun w1 hb => (sync_yes a cap l k w1 hl (slotsAt_below ha hb) hE h8).mono (fun e w' ⟨⟨ad, cp, x1, x2⟩, x3⟩ => ⟨⟨ad, cp, x1, by rw [sy_put l k hok] at x2; exact (ownS_at x2).1⟩, x3⟩)
      have KR : Hid (∀ w1, Below w.heap.size w w1 → Calls Try.prog 9 #[diskV a l.length cap, .int .i64 k] w1 fun e w' => e = .returned (.tuple #[.string (readT (l.getD k default)), .int .i64 0]) ∧ Below w1.heap.size w1 w') := fun w1 hb => read_yes a cap l k w1 hl (slotsAt_below ha hb) hk hE
      have KE : Hid (∀ w1, Below w.heap.size w w1 → Calls Try.prog 10 #[diskV a l.length cap, .int .i64 k] w1 fun e w' => e = .returned (.int .i64 0) ∧ Below w1.heap.size w1 w') := fun w1 hb => by
        have := slotError_any a cap l k w1 hl (slotsAt_below ha hb)
        rwa [hE] at this
      have KC1 : Hid (∀ w1, Below w.heap.size w w1 → Calls Try.prog 11 #[diskV a l.length cap] w1 fun e w' => e = .returned (.int .i64 0) ∧ Below w1.heap.size w1 w') := fun w1 hb => by
        have := check_any a cap l w1 hl (slotsAt_below ha hb)
        rwa [hD0] at this
      have KC2 : Hid (∀ w1, Below w.heap.size w w1 → Calls Try.prog 12 #[diskV a l.length cap] w1 fun e w' => e = .returned (.int .i64 0) ∧ Below w1.heap.size w1 w') := fun w1 hb => by
        have := rcheck_any a cap l w1 hl (slotsAt_below ha hb)
        rwa [hD0] at this
      have KWI : Hid (∀ w1, Below w.heap.size w w1 → Calls Try.prog 14 #[diskV a l.length cap, .int .i64 k, .string t] w1 fun e w' => (∃ ad cp, e = .returned (diskV ad l.length cp) ∧ slotsAt w' ad (mapS l (putF k ⟨(l.getD k default).safe, t, true⟩))) ∧ Below w1.heap.size w1 w') := fun w1 hb => (writeIn_any a cap l k t w1 h8 (slotsAt_below ha hb) hk).mono (fun e w' ⟨⟨ad, cp, x1, x2⟩, x3⟩ => ⟨⟨ad, cp, x1, (ownS_at x2).1⟩, x3⟩)
      have KSI : Hid (∀ w1, Below w.heap.size w w1 → Calls Try.prog 15 #[diskV a l.length cap, .int .i64 k] w1 fun e w' => (∃ ad cp, e = .returned (diskV ad l.length cp) ∧ slotsAt w' ad (mapS l (putF k ⟨readT (l.getD k default), ⟨#[]⟩, false⟩))) ∧ Below w1.heap.size w1 w') := fun w1 hb => (syncIn_any a cap l k w1 h8 (slotsAt_below ha hb) hk).mono (fun e w' ⟨⟨ad, cp, x1, x2⟩, x3⟩ => ⟨⟨ad, cp, x1, (ownS_at x2).1⟩, x3⟩)
      have KRI : Hid (∀ w1, Below w.heap.size w w1 → Calls Try.prog 16 #[diskV a l.length cap, .int .i64 k] w1 fun e w' => e = .returned (.string (readT (l.getD k default))) ∧ Below w1.heap.size w1 w') := fun w1 hb => readIn_any a cap l k w1 hl (slotsAt_below ha hb) hk
      obtain ⟨T, hT⟩ : ∃ z, readT (l.getD k default) = z := ⟨_, rfl⟩
      obtain ⟨R1, hR1⟩ : ∃ z, mapS l (putF k ⟨(l.getD k default).safe, t, true⟩) = z := ⟨_, rfl⟩
      obtain ⟨R2, hR2⟩ : ∃ z, mapS l (putF k ⟨readT (l.getD k default), ⟨#[]⟩, false⟩) = z := ⟨_, rfl⟩
      have e1 : R1.length = l.length := by rw [← hR1]; exact mapS_len _ _
      have e2 : R2.length = l.length := by rw [← hR2]; exact mapS_len _ _
      rw [hR1] at KW KWI
      rw [hR2] at KS KSI
      rw [hT] at KR KRI
      obtain ⟨n, hn⟩ : ∃ z, l.length = z := ⟨_, rfl⟩
      rw [hn] at KW KWI KS KSI KR KRI KE KC1 KC2 e1 e2 h8
      rw [hn] at c4
      rw [hn]
      have KQ : Hid (∀ R ad cp ad' cp' w1, (R = R1 ∨ R = R2) → slotsAt w1 ad R → slotsAt w1 ad' R → Calls Try.prog 6 #[.agg #[.slice ad n cp], .agg #[.slice ad' n cp']] w1 fun e w' => e = .returned (.bool true) ∧ Below w1.heap.size w1 w') := fun R ad cp ad' cp' w1 hR h1 h2 => by
        have hlen : R.length = n := by rcases hR with rfl | rfl <;> assumption
        have := same_any ad ad' cp cp' R R w1 h1 h2 (by omega) (by omega)
        rw [hlen] at this
        rwa [decide_eq_true rfl] at this
      clear hR1 hR2 hT hn ha hl hok hD0 hE h1 e1 e2
      unfold diskV at KW KWI KS KSI KR KRI KE KC1 KC2
      refine (KW.out W hbW).mono ?_
      rintro e w2 ⟨⟨ad, cp, rfl, sA⟩, hb2⟩
      have c42 := cell_later hb2 c4
      have hbw2 := hbW.trans (hb2.mono hbW.size)
      have l42 : w.heap.size < w2.heap.size := World.block_lt_of_cell? _ _ c42
      go_wp2_with fail
      refine (KS.out _ (hbw2.alloc hbw2.size _)).mono ?_
      rintro e w3 ⟨⟨ad2, cp2, rfl, sB⟩, hb3⟩
      have hw3 : Below w2.heap.size w2 w3 := ((Below.refl _ _).alloc (Nat.le_refl _) _).trans (hb3.mono (by simp))
      have hbw3 := hbw2.trans (hw3.mono hbw2.size)
      have sA3 := slotsAt_below sA hw3
      have c43 := cell_later hw3 c42
      have c11 : w3.cell? ⟨w2.heap.size, 0, none⟩ = some (.slice ad n cp) := by rw [hb3.cell (p := ⟨w2.heap.size, 0, none⟩) (by simp)]; go_simp
      have l43 : w.heap.size < w3.heap.size := World.block_lt_of_cell? _ _ c43
      have l11 : w2.heap.size < w3.heap.size := World.block_lt_of_cell? _ _ c11
      clear hb3 sA
      go_wp2_with fail
      refine (KR.out _ (hbw3.alloc hbw3.size _)).mono ?_
      rintro e w4 ⟨rfl, hb4⟩
      have hw4 : Below w3.heap.size w3 w4 := ((Below.refl _ _).alloc (Nat.le_refl _) _).trans (hb4.mono (by simp))
      have hbw4 := hbw3.trans (hw4.mono hbw3.size)
      have sA4 := slotsAt_below sA3 hw4
      have sB4 := slotsAt_below sB hw4
      have c44 := cell_later hw4 c43
      have c114 := cell_later hw4 c11
      have c13 : w4.cell? ⟨w3.heap.size, 0, none⟩ = some (.slice ad2 n cp2) := by rw [hb4.cell (p := ⟨w3.heap.size, 0, none⟩) (by simp)]; go_simp
      clear hb4 sA3 sB
      go_wp2_with fail
      refine (KE.out _ hbw4).mono ?_
      rintro e w5 ⟨rfl, hw5⟩
      have hbw5 := hbw4.trans (hw5.mono hbw4.size)
      have sA5 := slotsAt_below sA4 hw5
      have sB5 := slotsAt_below sB4 hw5
      have c45 := cell_later hw5 c44
      have c115 := cell_later hw5 c114
      have c135 := cell_later hw5 c13
      clear sA4 sB4 c44 c43 c42 c114 c13 c11 c4
      go_wp2
      go_region_held3 (fun w' => w'.cell? ⟨w.heap.size, 0, none⟩ = some (.slice a n cap)) (first | go_keep | exact cell_later hbA c45 | exact cell_later hbF c45)
        (first
          | (go_at_call 11; refine (KC1.out w5.drew hbw5.drew).mono ?_; rintro e wA ⟨rfl, hbA⟩)
          | (go_at_call 11; refine (KC1.out wA (hbw5.drew.trans (hbA.mono hbw5.drew.size))).mono ?_; rintro e wF ⟨rfl, hbG⟩; have hbF : Below w5.heap.size w5 wF := ((Below.refl _ _).drew.trans hbA).trans (hbG.mono hbA.size))
          | (go_at_call 12; refine (KC2.out w5.drew hbw5.drew).mono ?_; rintro e wA ⟨rfl, hbA⟩)
          | (go_at_call 12; refine (KC2.out wA (hbw5.drew.trans (hbA.mono hbw5.drew.size))).mono ?_; rintro e wF ⟨rfl, hbG⟩; have hbF : Below w5.heap.size w5 wF := ((Below.refl _ _).drew.trans hbA).trans (hbG.mono hbA.size)))
      all_goals
        have sA6 := slotsAt_below sA5 hbF
        have sB6 := slotsAt_below sB5 hbF
        have c46 := cell_later hbF c45
        have c116 := cell_later hbF c115
        have c136 := cell_later hbF c135
        have hbw6 := hbw5.trans (hbF.mono hbw5.size)
        go_wp2
        go_region_held3 (fun w' => w'.cell? ⟨w.heap.size, 0, none⟩ = some (.slice a n cap) ∧ w'.cell? ⟨w2.heap.size, 0, none⟩ = some (.slice ad n cp) ∧ w'.cell? ⟨w3.heap.size, 0, none⟩ = some (.slice ad2 n cp2)) (first | go_keep | exact ⟨cell_later hQ1 c46, cell_later hQ1 c116, cell_later hQ1 c136⟩ | exact ⟨cell_later hQ2 c46, cell_later hQ2 c116, cell_later hQ2 c136⟩ | exact ⟨cell_later hQ3 c46, cell_later hQ3 c116, cell_later hQ3 c136⟩ | exact ⟨cell_later hQ4 c46, cell_later hQ4 c116, cell_later hQ4 c136⟩ | exact ⟨cell_later hQ5 c46, cell_later hQ5 c116, cell_later hQ5 c136⟩ | exact ⟨cell_later hQ6 c46, cell_later hQ6 c116, cell_later hQ6 c136⟩)
          (first
            | (go_at_call 13; refine (KB.out wF.drew).mono ?_; rintro e x1 ⟨rfl, hq1⟩; have hQ1 : Below wF.heap.size wF x1 := (Below.refl _ _).drew.trans hq1)
            | (go_at_call 14; refine (KWI.out x1 (hbw6.trans (hQ1.mono hbw6.size))).mono ?_; rintro e x2 ⟨⟨ad3, cp3, rfl, sC⟩, hq2⟩; have hQ2 : Below wF.heap.size wF x2 := hQ1.trans (hq2.mono hQ1.size))
            | (go_at_call 15; refine (KSI.out x3 (hbw6.trans (hQ3.mono hbw6.size))).mono ?_; rintro e x4 ⟨⟨ad4, cp4, rfl, sE⟩, hq4⟩; have hQ4 : Below wF.heap.size wF x4 := hQ3.trans (hq4.mono hQ3.size))
            | (go_at_call 6; refine (KQ.out R2 ad2 cp2 ad4 cp4 x4 (.inr rfl) (slotsAt_below sB6 hQ4) sE).mono ?_; rintro e x5 ⟨rfl, hq5⟩; have hQ5 : Below wF.heap.size wF x5 := hQ4.trans (hq5.mono hQ4.size))
            | (go_at_call 6; refine (KQ.out R1 ad cp ad3 cp3 x2 (.inl rfl) (slotsAt_below sA6 hQ2) sC).mono ?_; rintro e x3 ⟨rfl, hq3⟩; have hQ3 : Below wF.heap.size wF x3 := hQ2.trans (hq3.mono hQ2.size))
            | (go_at_call 16; refine (KRI.out x5 (hbw6.trans (hQ5.mono hbw6.size))).mono ?_; rintro e x6 ⟨rfl, hq6⟩; have hQ6 : Below wF.heap.size wF x6 := hQ5.trans (hq6.mono hQ5.size)))
        all_goals
          go_wp2
          go_ret
          exact ⟨rfl, hbw6.trans (hQ6.mono hbw6.size)⟩
    · have KW : Hid (∀ w1, Below w.heap.size w w1 → Calls Try.prog 7 #[diskV a l.length cap, .int .i64 s, .string t] w1 fun e w' => e = .returned (.tuple #[diskV none 0 0, .int .i64 (errS l s)]) ∧ Below w1.heap.size w1 w') := fun w1 hb => write_no a cap l s t w1 hl (slotsAt_below ha hb) hE
      have KS : Hid (∀ w1, Below w.heap.size w w1 → Calls Try.prog 8 #[diskV a l.length cap, .int .i64 s] w1 fun e w' => e = .returned (.tuple #[diskV none 0 0, .int .i64 (errS l s)]) ∧ Below w1.heap.size w1 w') := fun w1 hb => sync_no a cap l s w1 hl (slotsAt_below ha hb) hE
      have KR : Hid (∀ w1, Below w.heap.size w w1 → Calls Try.prog 9 #[diskV a l.length cap, .int .i64 s] w1 fun e w' => e = .returned (.tuple #[.string ⟨#[]⟩, .int .i64 (errS l s)]) ∧ Below w1.heap.size w1 w') := fun w1 hb => read_no a cap l s w1 hl (slotsAt_below ha hb) hE
      have KE : Hid (∀ w1, Below w.heap.size w w1 → Calls Try.prog 10 #[diskV a l.length cap, .int .i64 s] w1 fun e w' => e = .returned (.int .i64 (errS l s)) ∧ Below w1.heap.size w1 w') := fun w1 hb => slotError_any a cap l s w1 hl (slotsAt_below ha hb)
      have KC1 : Hid (∀ w1, Below w.heap.size w w1 → Calls Try.prog 11 #[diskV a l.length cap] w1 fun e w' => e = .returned (.int .i64 (errD l)) ∧ Below w1.heap.size w1 w') := fun w1 hb => check_any a cap l w1 hl (slotsAt_below ha hb)
      have KC2 : Hid (∀ w1, Below w.heap.size w w1 → Calls Try.prog 12 #[diskV a l.length cap] w1 fun e w' => e = .returned (.int .i64 (errD l)) ∧ Below w1.heap.size w1 w') := fun w1 hb => rcheck_any a cap l w1 hl (slotsAt_below ha hb)
      obtain ⟨E, hE1⟩ : ∃ z, errS l s = z := ⟨_, rfl⟩
      obtain ⟨D, hD1⟩ : ∃ z, errD l = z := ⟨_, rfl⟩
      rw [hE1] at KW KS KR KE hE
      rw [hD1] at KC1 KC2
      obtain ⟨n, hn⟩ : ∃ z, l.length = z := ⟨_, rfl⟩
      rw [hn] at KW KS KR KE KC1 KC2
      rw [hn] at c4
      rw [hn]
      have hEb : (E == 0) = false := by simpa using hE
      have nE := neq_is (x := E) (y := E) false (by simp)
      have nD := neq_is (x := D) (y := D) false (by simp)
      clear hE1 hD1 hn ha hl hE
      unfold diskV at KW KS KR KE KC1 KC2
      refine (KW.out W hbW).mono ?_
      rintro e w2 ⟨rfl, hb2⟩
      have c42 := cell_later hb2 c4
      have hbw2 := hbW.trans (hb2.mono hbW.size)
      have l42 : w.heap.size < w2.heap.size := World.block_lt_of_cell? _ _ c42
      go_wp2_with fail
      refine (KS.out _ (hbw2.alloc hbw2.size _)).mono ?_
      rintro e w3 ⟨rfl, hb3⟩
      have hw3 : Below w2.heap.size w2 w3 := ((Below.refl _ _).alloc (Nat.le_refl _) _).trans (hb3.mono (by simp))
      have hbw3 := hbw2.trans (hw3.mono hbw2.size)
      have c43 := cell_later hw3 c42
      have c11 : w3.cell? ⟨w2.heap.size, 0, none⟩ = some (.slice none 0 0) := by rw [hb3.cell (p := ⟨w2.heap.size, 0, none⟩) (by simp)]; go_simp
      have l43 : w.heap.size < w3.heap.size := World.block_lt_of_cell? _ _ c43
      have l11 : w2.heap.size < w3.heap.size := World.block_lt_of_cell? _ _ c11
      clear hb3
      go_wp2_with fail
      refine (KR.out _ (hbw3.alloc hbw3.size _)).mono ?_
      rintro e w4 ⟨rfl, hb4⟩
      have hw4 : Below w3.heap.size w3 w4 := ((Below.refl _ _).alloc (Nat.le_refl _) _).trans (hb4.mono (by simp))
      have hbw4 := hbw3.trans (hw4.mono hbw3.size)
      have c44 := cell_later hw4 c43
      have c114 := cell_later hw4 c11
      have c13 : w4.cell? ⟨w3.heap.size, 0, none⟩ = some (.slice none 0 0) := by rw [hb4.cell (p := ⟨w3.heap.size, 0, none⟩) (by simp)]; go_simp
      clear hb4
      go_wp2_with fail
      refine (KE.out _ hbw4).mono ?_
      rintro e w5 ⟨rfl, hw5⟩
      have hbw5 := hbw4.trans (hw5.mono hbw4.size)
      have c45 := cell_later hw5 c44
      have c115 := cell_later hw5 c114
      have c135 := cell_later hw5 c13
      clear c44 c43 c42 c114 c13 c11 c4
      go_wp2
      go_region_held3 (fun w' => w'.cell? ⟨w.heap.size, 0, none⟩ = some (.slice a n cap)) (first | go_keep | exact cell_later hbA c45 | exact cell_later hbF c45)
        (first
          | (go_at_call 11; refine (KC1.out w5.drew hbw5.drew).mono ?_; rintro e wA ⟨rfl, hbA⟩)
          | (go_at_call 11; refine (KC1.out wA (hbw5.drew.trans (hbA.mono hbw5.drew.size))).mono ?_; rintro e wF ⟨rfl, hbG⟩; have hbF : Below w5.heap.size w5 wF := ((Below.refl _ _).drew.trans hbA).trans (hbG.mono hbA.size))
          | (go_at_call 12; refine (KC2.out w5.drew hbw5.drew).mono ?_; rintro e wA ⟨rfl, hbA⟩)
          | (go_at_call 12; refine (KC2.out wA (hbw5.drew.trans (hbA.mono hbw5.drew.size))).mono ?_; rintro e wF ⟨rfl, hbG⟩; have hbF : Below w5.heap.size w5 wF := ((Below.refl _ _).drew.trans hbA).trans (hbG.mono hbA.size)))
      all_goals
        have c116 := cell_later hbF c115
        have c136 := cell_later hbF c135
        have hbw6 := hbw5.trans (hbF.mono hbw5.size)
        go_wp2_with (go_at_call 13; refine (KB.out wF).mono ?_; rintro e x1 ⟨rfl, hq1⟩; have k11 := cell_later hq1 c116; have k13 := cell_later hq1 c136)
        go_ret
        exact ⟨rfl, hbw6.trans (hq1.mono hbw6.size)⟩
theorem steps_walk (a : Option Addr) (cap : Nat) (l : List Slt) (s : Int) (t : ByteArray) (m : Int) (w : World) (hl : l.length ≤ 9223372036854775807) (ha : slotsAt w a l) :
    Calls Try.prog 3 #[diskV a l.length cap, .int .i64 s, .string t, .int .i64 m] w fun e w' => e = .returned (.bool true) ∧ Below w.heap.size w w' := by
  by_cases hm1 : m < 1
  · exact steps_lo a cap l s t m hm1 w hl ha
  · by_cases hm8 : m > 8
    · exact steps_hi a cap l s t m hm1 hm8 w hl ha
    · obtain ⟨q, rfl⟩ := Int.eq_ofNat_of_zero_le (a := m) (by omega)
      exact steps_in a cap l s t q (by omega) (by omega) w hl ha
end Go.Proofs.Ytdjlnloalpfmoaa.dk
