/- DiskCrashes answers true. -/
import Derived.Test.YtdjlnloalpfmoaaDskBegun
namespace Go.Proofs.Ytdjlnloalpfmoaa.dk
open Go.ChangeShapes Go.WideShapes Go.ChangeAt Go.RowKit
set_option linter.unusedVariables false
set_option linter.unusedSimpArgs false
theorem ok_emptyC {c : Slt} (h : sltOk c = true) (hh : c.has = false) : c = ⟨c.safe, ⟨#[]⟩, false⟩ := by
  unfold sltOk at h
  rw [hh, Bool.false_or] at h
  have := of_decide_eq_true h
  cases c
  simp only at this hh
  subst this hh
  rfl
theorem cr_putC (l : List Slt) (cs : List Int) (h0 : ∀ i, i < l.length → sltOk (l.getD i default) = true) : mapS l (fun i c => crF cs i c) = mapS l (crI cs) := by
  refine mapS_ext (fun i hi => ?_)
  unfold crF crI
  cases hh : (l.getD i default).has with
  | true =>
    rw [if_pos rfl]
    unfold keptT
    by_cases h : cutAt cs i < 0
    · rw [if_pos h, if_neg (by simp; omega)]
    · rw [if_neg h, if_pos ⟨rfl, by omega⟩]
  | false =>
    rw [if_neg (by decide), if_neg (by simp)]
    exact ok_emptyC (h0 i hi) hh
theorem errD_mk {l : List Slt} (h1 : 1 ≤ l.length) (h8 : l.length ≤ 8) (h : ∀ i, i < l.length → sltOk (l.getD i default) = true) : errD l = 0 := by
  unfold errD
  rw [(betw_iff _ _ _).2 ⟨by omega, by omega⟩, allB_iff.2 h]
  rfl
theorem errD_map {l : List Slt} {f : Nat → Slt → Slt} (hD : errD l = 0) (h : ∀ i c, sltOk c = true → sltOk (f i c) = true) : errD (mapS l f) = 0 := by
  obtain ⟨h1, h8, hok⟩ := errD_ok hD
  refine errD_mk (by rw [mapS_len]; exact h1) (by rw [mapS_len]; exact h8) (fun i hi => ?_)
  rw [mapS_len] at hi
  rw [mapS_at l f i hi]
  exact h i _ (hok i hi)
theorem sy_ok (k : Nat) (i : Nat) (c : Slt) (h : sltOk c = true) : sltOk (syF k i c) = true := by
  unfold syF
  split
  · rfl
  · exact h
theorem cr_ok (cs : List Int) (i : Nat) (c : Slt) (h : sltOk c = true) : sltOk (crF cs i c) = true := by
  unfold crF
  split
  · rfl
  · exact h
theorem errS_mk {l : List Slt} {k : Nat} (hD : errD l = 0) (hk : k < l.length) : errS l k = 0 := by
  unfold errS
  rw [hD, if_neg (by simp), if_pos ((betw_iff _ _ _).2 ⟨by omega, by omega⟩)]
theorem sy_wait {l : List Slt} {k : Nat} (hw : ∀ i, i < l.length → (l.getD i default).wait.size ≤ maxLen) : ∀ i, i < (mapS l (fun i c => syF k i c)).length → ((mapS l (fun i c => syF k i c)).getD i default).wait.size ≤ maxLen := by
  intro i hi
  rw [mapS_len] at hi
  rw [mapS_at l _ i hi]
  unfold syF
  split
  · exact Nat.zero_le _
  · exact hw i hi
theorem read_same {l : List Slt} {cs : List Int} {k : Nat} (hk : k < l.length) : readT ((mapS (mapS l (fun i c => syF k i c)) (fun i c => crF cs i c)).getD k default) = readT (l.getD k default) := by
  rw [mapS_at _ _ k (by rw [mapS_len]; exact hk), mapS_at _ _ k hk]
  unfold syF
  cases hh : (l.getD k default).has with
  | true =>
    rw [if_pos ⟨rfl, rfl⟩]
    simp [crF, readT]
    simp at hh
    simp [hh]
  | false =>
    rw [if_neg (by simp)]
    unfold crF
    rw [if_neg (by rw [hh]; decide)]
theorem eql_is {x y : Int} (b : Bool) (h : (x == y) = b) : ∀ t, binOp .eql t (.int .i64 x) (.int .i64 y) = pure (.bool b) := fun t => by rw [binOp_eql, h]
set_option maxRecDepth 10000 in
set_option maxHeartbeats 8000000 in
theorem crashes_walk (a : Option Addr) (cap : Nat) (l : List Slt) (ca : Option Addr) (cc : Nat) (cs : List Int) (s : Int) (w : World) (hl : l.length ≤ 9223372036854775807) (ha : slotsAt w a l) (hcl : cs.length ≤ 9223372036854775807) (hca : intsAt w ca cs) (hwt : ∀ i, i < l.length → (l.getD i default).wait.size ≤ maxLen) (s1 : -9223372036854775808 ≤ s) (s2 : s ≤ 9223372036854775807) :
    Calls Try.prog 4 #[diskV a l.length cap, .slice ca cs.length cc, .int .i64 s] w fun e w' => e = .returned (.bool true) ∧ Below w.heap.size w w' := by
  have KB : Hid (∀ w1, Calls Try.prog 13 #[] w1 fun e w' => e = .returned (.bool true) ∧ Below w1.heap.size w1 w') := fun w1 => begun_any w1
  by_cases hD : errD l = 0
  · obtain ⟨h1, h8, hok⟩ := errD_ok hD
    have hk := pick_lt s (n := l.length) (by omega)
    have KP : Hid (∀ w1, Calls Try.prog 18 #[.int .i64 s, .int .i64 l.length] w1 fun e w' => e = .returned (.int .i64 (pick s l.length)) ∧ w' = w1) := fun w1 => choose_any s l.length w1 (by omega) hl s1 s2
    obtain ⟨k, hkk⟩ : ∃ z, pick s l.length = z := ⟨_, rfl⟩
    rw [hkk] at hk KP
    have hS := errS_mk hD hk
    have hD2 : errD (mapS l (fun i c => syF k i c)) = 0 := errD_map hD (fun i c => sy_ok k i c)
    have hD3 : errD (mapS (mapS l (fun i c => syF k i c)) (fun i c => crF cs i c)) = 0 := errD_map hD2 (fun i c => cr_ok cs i c)
    have KC : Hid (∀ w1, Below w.heap.size w w1 → Calls Try.prog 17 #[diskV a l.length cap, .slice ca cs.length cc] w1 fun e w' => (∃ ad cp, e = .returned (.tuple #[diskV ad l.length cp, .int .i64 0]) ∧ slotsAt w' ad (mapS l (crI cs))) ∧ Below w1.heap.size w1 w') := fun w1 hb => (crash_yes a cap l ca cc cs w1 hl (slotsAt_below ha hb) hD h8 (intsAt_below hca hb) hcl hwt).mono (fun e w' ⟨⟨ad, cp, x1, x2⟩, x3⟩ => ⟨⟨ad, cp, x1, by rw [cr_putC l cs hok] at x2; exact (ownS_at x2).1⟩, x3⟩)
    have KD : Hid (∀ w1, Below w.heap.size w w1 → Calls Try.prog 12 #[diskV a l.length cap] w1 fun e w' => e = .returned (.int .i64 0) ∧ Below w1.heap.size w1 w') := fun w1 hb => by
      have := rcheck_any a cap l w1 hl (slotsAt_below ha hb)
      rwa [hD] at this
    have KS : Hid (∀ w1, Below w.heap.size w w1 → Calls Try.prog 8 #[diskV a l.length cap, .int .i64 k] w1 fun e w' => (∃ ad cp, e = .returned (.tuple #[diskV ad l.length cp, .int .i64 0]) ∧ slotsAt w' ad (mapS l (fun i c => syF k i c))) ∧ Below w1.heap.size w1 w') := fun w1 hb => (sync_yes a cap l k w1 hl (slotsAt_below ha hb) hS h8).mono (fun e w' ⟨⟨ad, cp, x1, x2⟩, x3⟩ => ⟨⟨ad, cp, x1, (ownS_at x2).1⟩, x3⟩)
    have KC2 : Hid (∀ ad cp w1, Below w.heap.size w w1 → slotsAt w1 ad (mapS l (fun i c => syF k i c)) → Calls Try.prog 17 #[diskV ad l.length cp, .slice ca cs.length cc] w1 fun e w' => (∃ ad cp, e = .returned (.tuple #[diskV ad l.length cp, .int .i64 0]) ∧ slotsAt w' ad (mapS (mapS l (fun i c => syF k i c)) (fun i c => crF cs i c))) ∧ Below w1.heap.size w1 w') := fun ad cp w1 hb hsl => by
      have := crash_yes ad cp (mapS l (fun i c => syF k i c)) ca cc cs w1 (by rw [mapS_len]; exact hl) hsl hD2 (by rw [mapS_len]; exact h8) (intsAt_below hca hb) hcl (sy_wait hwt)
      rw [mapS_len] at this
      exact this.mono (fun e w' ⟨⟨ad, cp, x1, x2⟩, x3⟩ => ⟨⟨ad, cp, x1, (ownS_at x2).1⟩, x3⟩)
    have KR : Hid (∀ ad cp w1, slotsAt w1 ad (mapS (mapS l (fun i c => syF k i c)) (fun i c => crF cs i c)) → Calls Try.prog 9 #[diskV ad l.length cp, .int .i64 k] w1 fun e w' => e = .returned (.tuple #[.string (readT (l.getD k default)), .int .i64 0]) ∧ Below w1.heap.size w1 w') := fun ad cp w1 hsl => by
      have := read_yes ad cp (mapS (mapS l (fun i c => syF k i c)) (fun i c => crF cs i c)) k w1 (by rw [mapS_len, mapS_len]; exact hl) hsl (by rw [mapS_len, mapS_len]; exact hk) (errS_mk hD3 (by rw [mapS_len, mapS_len]; exact hk))
      rw [mapS_len, mapS_len, read_same hk] at this
      exact this
    have KCI : Hid (∀ w1, Below w.heap.size w w1 → Calls Try.prog 19 #[diskV a l.length cap, .slice ca cs.length cc] w1 fun e w' => (∃ ad cp, e = .returned (diskV ad l.length cp) ∧ slotsAt w' ad (mapS l (crI cs))) ∧ Below w1.heap.size w1 w') := fun w1 hb => crashIn_any a ca cap cc l cs w1 h8 hcl (slotsAt_below ha hb) (intsAt_below hca hb) hwt (by omega)
    have KRI : Hid (∀ w1, Below w.heap.size w w1 → Calls Try.prog 16 #[diskV a l.length cap, .int .i64 k] w1 fun e w' => e = .returned (.string (readT (l.getD k default))) ∧ Below w1.heap.size w1 w') := fun w1 hb => readIn_any a cap l k w1 hl (slotsAt_below ha hb) hk
    obtain ⟨T, hT⟩ : ∃ z, readT (l.getD k default) = z := ⟨_, rfl⟩
    obtain ⟨R1, hR1⟩ : ∃ z, mapS l (crI cs) = z := ⟨_, rfl⟩
    obtain ⟨R2, hR2⟩ : ∃ z, mapS l (fun i c => syF k i c) = z := ⟨_, rfl⟩
    obtain ⟨R3, hR3⟩ : ∃ z, mapS R2 (fun i c => crF cs i c) = z := ⟨_, rfl⟩
    have e1 : R1.length = l.length := by rw [← hR1]; exact mapS_len _ _
    rw [hR1] at KC KCI
    rw [hR2] at KS KC2 KR
    rw [hR3] at KC2 KR
    rw [hT] at KR KRI
    obtain ⟨n, hn⟩ : ∃ z, l.length = z := ⟨_, rfl⟩
    obtain ⟨m, hm⟩ : ∃ z, cs.length = z := ⟨_, rfl⟩
    rw [hn] at KC KD KS KC2 KR KCI KRI KP e1 hl
    rw [hm] at KC KC2 KCI
    rw [hn, hm]
    have KQ : Hid (∀ ad cp ad' cp' w1, slotsAt w1 ad R1 → slotsAt w1 ad' R1 → Calls Try.prog 6 #[.agg #[.slice ad n cp], .agg #[.slice ad' n cp']] w1 fun e w' => e = .returned (.bool true) ∧ Below w1.heap.size w1 w') := fun ad cp ad' cp' w1 h1 h2 => by
      have := same_any ad ad' cp cp' R1 R1 w1 h1 h2 (by omega) (by omega)
      rw [e1] at this
      rwa [decide_eq_true rfl] at this
    clear hR1 hR2 hR3 hT hn hm ha hok hD hD2 hD3 h1 e1 hca hcl hwt hS hkk
    unfold diskV at KC KD KS KC2 KR KCI KRI ⊢
    have hb0 : Below w.heap.size w (w.alloc (.cells #[.slice a n cap] 24)) := (Below.refl _ _).alloc (Nat.le_refl _) _
    go_enter Try.func4, Try.ntmps4
    go_wp2_with fail
    refine (KC.out _ hb0).mono ?_
    rintro e w1 ⟨⟨ad1, cp1, rfl, sA⟩, hb1⟩
    have hbw1 := hb0.trans (hb1.mono hb0.size)
    have c1 : w1.cell? ⟨w.heap.size, 0, none⟩ = some (.slice a n cap) := by rw [hb1.cell (p := ⟨w.heap.size, 0, none⟩) (by simp)]; go_simp
    have l1 : w.heap.size < w1.heap.size := World.block_lt_of_cell? _ _ c1
    go_wp2_with fail
    refine (KD.out _ (hbw1.alloc hbw1.size _)).mono ?_
    rintro e w2 ⟨rfl, hb2⟩
    have hw2 : Below w1.heap.size w1 w2 := ((Below.refl _ _).alloc (Nat.le_refl _) _).trans (hb2.mono (by simp))
    have hbw2 := hbw1.trans (hw2.mono hbw1.size)
    have c2 := cell_later hw2 c1
    have d2 : w2.cell? ⟨w1.heap.size, 0, none⟩ = some (.slice ad1 n cp1) := by rw [hb2.cell (p := ⟨w1.heap.size, 0, none⟩) (by simp)]; go_simp
    have sA2 := slotsAt_below sA hw2
    go_wp2_with fail
    refine (KP.out _).mono ?_
    rintro e w3 ⟨rfl, hw3⟩
    subst hw3
    go_wp2_with fail
    refine (KS.out _ hbw2).mono ?_
    rintro e w4 ⟨⟨ad4, cp4, rfl, sB⟩, hb4⟩
    have hbw4 := hbw2.trans (hb4.mono hbw2.size)
    have c4 := cell_later hb4 c2
    have d4 := cell_later hb4 d2
    have sA4 := slotsAt_below sA2 hb4
    have l4 : w.heap.size < w4.heap.size := World.block_lt_of_cell? _ _ c4
    have m4 : w1.heap.size < w4.heap.size := World.block_lt_of_cell? _ _ d4
    go_wp2_with fail
    refine (KC2.out ad4 cp4 _ (hbw4.alloc hbw4.size _) (slotsAt_below sB ((Below.refl _ _).alloc (Nat.le_refl _) _))).mono ?_
    rintro e w5 ⟨⟨ad5, cp5, rfl, sE⟩, hb5⟩
    have hw5 : Below w4.heap.size w4 w5 := ((Below.refl _ _).alloc (Nat.le_refl _) _).trans (hb5.mono (by simp))
    have hbw5 := hbw4.trans (hw5.mono hbw4.size)
    have c5 := cell_later hw5 c4
    have d5 := cell_later hw5 d4
    have sA5 := slotsAt_below sA4 hw5
    have l5 : w.heap.size < w5.heap.size := World.block_lt_of_cell? _ _ c5
    have m5 : w1.heap.size < w5.heap.size := World.block_lt_of_cell? _ _ d5
    go_wp2_with fail
    refine (KR.out ad5 cp5 _ (slotsAt_below sE ((Below.refl _ _).alloc (Nat.le_refl _) _))).mono ?_
    rintro e w6 ⟨rfl, hb6⟩
    have hw6 : Below w5.heap.size w5 w6 := ((Below.refl _ _).alloc (Nat.le_refl _) _).trans (hb6.mono (by simp))
    have hbw6 := hbw5.trans (hw6.mono hbw5.size)
    have c6 := cell_later hw6 c5
    have d6 := cell_later hw6 d5
    have sA6 := slotsAt_below sA5 hw6
    clear sA sA2 sA4 sA5 sB sE c1 c2 c4 c5 d2 d4 d5 hb1 hb2 hb5 hb6
    go_wp2
    go_region_held3 (fun w' => w'.cell? ⟨w.heap.size, 0, none⟩ = some (.slice a n cap) ∧ w'.cell? ⟨w1.heap.size, 0, none⟩ = some (.slice ad1 n cp1)) (first | go_keep | exact ⟨cell_later hQ1 c6, cell_later hQ1 d6⟩ | exact ⟨cell_later hQ2 c6, cell_later hQ2 d6⟩ | exact ⟨cell_later hQ3 c6, cell_later hQ3 d6⟩ | exact ⟨cell_later hQ4 c6, cell_later hQ4 d6⟩)
      (first
        | (go_at_call 13; refine (KB.out w6.drew).mono ?_; rintro e x1 ⟨rfl, hq1⟩; have hQ1 : Below w6.heap.size w6 x1 := (Below.refl _ _).drew.trans hq1)
        | (go_at_call 19; refine (KCI.out x1 (hbw6.trans (hQ1.mono hbw6.size))).mono ?_; rintro e x2 ⟨⟨ad7, cp7, rfl, sC⟩, hq2⟩; have hQ2 : Below w6.heap.size w6 x2 := hQ1.trans (hq2.mono hQ1.size))
        | (go_at_call 6; refine (KQ.out ad1 cp1 ad7 cp7 x2 (slotsAt_below sA6 hQ2) sC).mono ?_; rintro e x3 ⟨rfl, hq3⟩; have hQ3 : Below w6.heap.size w6 x3 := hQ2.trans (hq3.mono hQ2.size))
        | (go_at_call 16; refine (KRI.out x3 (hbw6.trans (hQ3.mono hbw6.size))).mono ?_; rintro e x4 ⟨rfl, hq4⟩; have hQ4 : Below w6.heap.size w6 x4 := hQ3.trans (hq4.mono hQ3.size)))
    all_goals
      go_wp2
      go_ret
      exact ⟨rfl, hbw6.trans (hQ4.mono hbw6.size)⟩
  · have KC : Hid (∀ w1, Below w.heap.size w w1 → Calls Try.prog 17 #[diskV a l.length cap, .slice ca cs.length cc] w1 fun e w' => e = .returned (.tuple #[diskV none 0 0, .int .i64 (errD l)]) ∧ Below w1.heap.size w1 w') := fun w1 hb => crash_no a cap l ca cc cs w1 hl (slotsAt_below ha hb) hD
    have KD : Hid (∀ w1, Below w.heap.size w w1 → Calls Try.prog 12 #[diskV a l.length cap] w1 fun e w' => e = .returned (.int .i64 (errD l)) ∧ Below w1.heap.size w1 w') := fun w1 hb => rcheck_any a cap l w1 hl (slotsAt_below ha hb)
    obtain ⟨D, hD1⟩ : ∃ z, errD l = z := ⟨_, rfl⟩
    rw [hD1] at KC KD hD
    obtain ⟨n, hn⟩ : ∃ z, l.length = z := ⟨_, rfl⟩
    obtain ⟨m, hm⟩ : ∃ z, cs.length = z := ⟨_, rfl⟩
    rw [hn] at KC KD
    rw [hm] at KC
    rw [hn, hm]
    have hDb : (D == 0) = false := by simpa using hD
    clear hD1 hn hm ha hl hD hca hcl hwt
    unfold diskV at KC KD ⊢
    have hb0 : Below w.heap.size w (w.alloc (.cells #[.slice a n cap] 24)) := (Below.refl _ _).alloc (Nat.le_refl _) _
    go_enter Try.func4, Try.ntmps4
    go_wp2_with fail
    refine (KC.out _ hb0).mono ?_
    rintro e w1 ⟨rfl, hb1⟩
    have hbw1 := hb0.trans (hb1.mono hb0.size)
    have c1 : w1.cell? ⟨w.heap.size, 0, none⟩ = some (.slice a n cap) := by rw [hb1.cell (p := ⟨w.heap.size, 0, none⟩) (by simp)]; go_simp
    have l1 : w.heap.size < w1.heap.size := World.block_lt_of_cell? _ _ c1
    go_wp2_with fail
    refine (KD.out _ (hbw1.alloc hbw1.size _)).mono ?_
    rintro e w2 ⟨rfl, hb2⟩
    have hw2 : Below w1.heap.size w1 w2 := ((Below.refl _ _).alloc (Nat.le_refl _) _).trans (hb2.mono (by simp))
    have hbw2 := hbw1.trans (hw2.mono hbw1.size)
    have d2 : w2.cell? ⟨w1.heap.size, 0, none⟩ = some (.slice none 0 0) := by rw [hb2.cell (p := ⟨w1.heap.size, 0, none⟩) (by simp)]; go_simp
    go_wp2_with (go_at_call 13; refine (KB.out w2).mono ?_; rintro e x1 ⟨rfl, hq1⟩; have k11 := cell_later hq1 d2)
    go_ret
    exact ⟨rfl, hbw2.trans (hq1.mono hbw2.size)⟩
end Go.Proofs.Ytdjlnloalpfmoaa.dk
