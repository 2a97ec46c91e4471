/- Write, Sync, Read, Crash and New; the document's SlotError and ReadIn. -/
import Derived.Test.YtdjlnloalpfmoaaDskOps
namespace Go.Proofs.Ytdjlnloalpfmoaa.dk
open Go.ChangeShapes Go.WideShapes Go.ChangeAt Go.RowKit
set_option linter.unusedVariables false
set_option linter.unusedSimpArgs false
theorem ret_two {v : Value} {a b : Int} (h : a = b) : Ending.returned (.tuple #[v, .int .i64 a]) = .returned (.tuple #[v, .int .i64 b]) := by rw [h]
set_option maxHeartbeats 1000000 in
theorem checkSlot_any (a : Option Addr) (cap : Nat) (l : List Slt) (s : Int) (w : World) (hl : l.length ≤ 9223372036854775807) (ha : slotsAt w a l) :
    Calls Try.prog 21 #[diskV a l.length cap, .int .i64 s] w fun e w' => e = .returned (.int .i64 (errS l s)) ∧ Below w.heap.size w w' := by
  have KC : Hid (∀ w1, Below w.heap.size w w1 → Calls Try.prog 11 #[diskV a l.length cap] w1 fun e w' => e = .returned (.int .i64 (errD l)) ∧ Below w1.heap.size w1 w') := fun w1 hb => check_any a cap l w1 hl (slotsAt_below ha hb)
  obtain ⟨R, hR⟩ : ∃ z, errS l s = z := ⟨_, rfl⟩
  obtain ⟨E, hE⟩ : ∃ z, errD l = z := ⟨_, rfl⟩
  obtain ⟨n, hn⟩ : ∃ z, l.length = z := ⟨_, rfl⟩
  have HR : Hid (R = if E ≠ 0 then E else if betw s 0 (n - 1) = true then 0 else 9) := by show _ = _; rw [← hR, ← hE, ← hn]; rfl
  rw [hE, hn] at KC
  rw [hR, hn]
  rw [hn] at hl
  clear hR hE hn ha
  unfold diskV at KC ⊢
  by_cases h0 : E = 0
  · subst h0
    have HR2 : Hid (R = if betw s 0 (n - 1) = true then 0 else 9) := HR.out
    by_cases h1 : s < 0
    · have HR3 : Hid (R = 9) := by show _ = _; rw [HR2.out, if_neg (by rw [betw_iff]; omega)]
      go_enter Try.func21, Try.ntmps21
      go_wp2_with (go_at_call 11; refine (KC.out _ ((Below.refl _ _).alloc (Nat.le_refl _) _)).mono ?_; rintro e w1 ⟨rfl, hb1⟩)
      go_ret
      exact ⟨ret_int HR3.out.symm, ((Below.refl _ _).alloc (Nat.le_refl _) _).trans (hb1.mono (by simp))⟩
    · by_cases h2 : s ≥ (n : Int)
      · have HR3 : Hid (R = 9) := by show _ = _; rw [HR2.out, if_neg (by rw [betw_iff]; omega)]
        go_enter Try.func21, Try.ntmps21
        go_wp2_with (go_at_call 11; refine (KC.out _ ((Below.refl _ _).alloc (Nat.le_refl _) _)).mono ?_; rintro e w1 ⟨rfl, hb1⟩; have c0 : w1.cell? ⟨w.heap.size, 0, none⟩ = some (.slice a n cap) := (by rw [hb1.cell (p := ⟨w.heap.size, 0, none⟩) (by simp)]; go_simp))
        go_ret
        exact ⟨ret_int HR3.out.symm, ((Below.refl _ _).alloc (Nat.le_refl _) _).trans (hb1.mono (by simp))⟩
      · have HR3 : Hid (R = 0) := by show _ = _; rw [HR2.out, if_pos (by rw [betw_iff]; omega)]
        go_enter Try.func21, Try.ntmps21
        go_wp2_with (go_at_call 11; refine (KC.out _ ((Below.refl _ _).alloc (Nat.le_refl _) _)).mono ?_; rintro e w1 ⟨rfl, hb1⟩; have c0 : w1.cell? ⟨w.heap.size, 0, none⟩ = some (.slice a n cap) := (by rw [hb1.cell (p := ⟨w.heap.size, 0, none⟩) (by simp)]; go_simp))
        go_ret
        exact ⟨ret_int HR3.out.symm, ((Below.refl _ _).alloc (Nat.le_refl _) _).trans (hb1.mono (by simp))⟩
  · have HR2 : Hid (R = E) := by show _ = _; rw [HR.out, if_pos h0]
    have hb' : (E == 0) = false := by simpa using h0
    go_enter Try.func21, Try.ntmps21
    go_wp2_with (go_at_call 11; refine (KC.out _ ((Below.refl _ _).alloc (Nat.le_refl _) _)).mono ?_; rintro e w1 ⟨rfl, hb1⟩)
    go_ret
    exact ⟨ret_int HR2.out.symm, ((Below.refl _ _).alloc (Nat.le_refl _) _).trans (hb1.mono (by simp))⟩
set_option maxHeartbeats 1000000 in
theorem slotError_any (a : Option Addr) (cap : Nat) (l : List Slt) (s : Int) (w : World) (hl : l.length ≤ 9223372036854775807) (ha : slotsAt w a l) :
    Calls Try.prog 10 #[diskV a l.length cap, .int .i64 s] w fun e w' => e = .returned (.int .i64 (errS l s)) ∧ Below w.heap.size w w' := by
  have KC : Hid (∀ w1, Below w.heap.size w w1 → Calls Try.prog 12 #[diskV a l.length cap] w1 fun e w' => e = .returned (.int .i64 (errD l)) ∧ Below w1.heap.size w1 w') := fun w1 hb => rcheck_any a cap l w1 hl (slotsAt_below ha hb)
  obtain ⟨R, hR⟩ : ∃ z, errS l s = z := ⟨_, rfl⟩
  obtain ⟨E, hE⟩ : ∃ z, errD l = z := ⟨_, rfl⟩
  obtain ⟨n, hn⟩ : ∃ z, l.length = z := ⟨_, rfl⟩
  have HR : Hid (R = if E ≠ 0 then E else if betw s 0 (n - 1) = true then 0 else 9) := by show _ = _; rw [← hR, ← hE, ← hn]; rfl
  rw [hE, hn] at KC
  rw [hR, hn]
  rw [hn] at hl
  clear hR hE hn ha
  unfold diskV at KC ⊢
  by_cases h0 : E = 0
  · subst h0
    have HR2 : Hid (R = if betw s 0 (n - 1) = true then 0 else 9) := HR.out
    obtain ⟨B, hB⟩ : ∃ z, betw s 0 ((n : Int) - 1) = z := ⟨_, rfl⟩
    have KW : Hid (∀ w1, Calls Try.prog 25 #[.int .i64 s, .int .i64 0, .int .i64 ((n : Int) - 1)] w1 fun e w' => e = .returned (.bool B) ∧ w' = w1) := fun w1 => by rw [← hB]; exact within_any s 0 _ w1
    rw [hB] at HR2
    clear hB
    have hwr : IntKind.i64.wrap ((n : Int) - 1) = (n : Int) - 1 := by rw [IntKind.wrap_i64]; omega
    cases B with
    | true =>
      have HR3 : Hid (R = 0) := HR2.out
      go_enter Try.func10, Try.ntmps10
      go_wp2_with (first | (go_at_call 12; refine (KC.out _ ((Below.refl _ _).alloc (Nat.le_refl _) _)).mono ?_; rintro e w1 ⟨rfl, hb1⟩; have c0 : w1.cell? ⟨w.heap.size, 0, none⟩ = some (.slice a n cap) := (by rw [hb1.cell (p := ⟨w.heap.size, 0, none⟩) (by simp)]; go_simp)) | (go_at_call 25; refine (KW.out _).mono ?_; rintro e w2 ⟨rfl, hw2⟩; subst hw2))
      go_ret
      exact ⟨ret_int HR3.out.symm, ((Below.refl _ _).alloc (Nat.le_refl _) _).trans (hb1.mono (by simp))⟩
    | false =>
      have HR3 : Hid (R = 9) := HR2.out
      go_enter Try.func10, Try.ntmps10
      go_wp2_with (first | (go_at_call 12; refine (KC.out _ ((Below.refl _ _).alloc (Nat.le_refl _) _)).mono ?_; rintro e w1 ⟨rfl, hb1⟩; have c0 : w1.cell? ⟨w.heap.size, 0, none⟩ = some (.slice a n cap) := (by rw [hb1.cell (p := ⟨w.heap.size, 0, none⟩) (by simp)]; go_simp)) | (go_at_call 25; refine (KW.out _).mono ?_; rintro e w2 ⟨rfl, hw2⟩; subst hw2))
      go_ret
      exact ⟨ret_int HR3.out.symm, ((Below.refl _ _).alloc (Nat.le_refl _) _).trans (hb1.mono (by simp))⟩
  · have HR2 : Hid (R = E) := by show _ = _; rw [HR.out, if_pos h0]
    have hb' : (E == 0) = false := by simpa using h0
    go_enter Try.func10, Try.ntmps10
    go_wp2_with (go_at_call 12; refine (KC.out _ ((Below.refl _ _).alloc (Nat.le_refl _) _)).mono ?_; rintro e w1 ⟨rfl, hb1⟩)
    go_ret
    exact ⟨ret_int HR2.out.symm, ((Below.refl _ _).alloc (Nat.le_refl _) _).trans (hb1.mono (by simp))⟩
theorem errS_ok {l : List Slt} {s : Int} (h : errS l s = 0) : errD l = 0 ∧ ∃ k : Nat, s = k ∧ k < l.length := by
  unfold errS at h
  by_cases h0 : errD l = 0
  · refine ⟨h0, ?_⟩
    rw [if_neg (by simp [h0])] at h
    by_cases h1 : betw s 0 (l.length - 1) = true
    · rw [betw_iff] at h1
      obtain ⟨k, rfl⟩ := Int.eq_ofNat_of_zero_le h1.1
      exact ⟨k, rfl, by omega⟩
    · rw [if_neg h1] at h; cases h
  · rw [if_pos h0] at h; exact absurd h h0
theorem errD_ok {l : List Slt} (h : errD l = 0) : 1 ≤ l.length ∧ l.length ≤ 8 ∧ ∀ i, i < l.length → sltOk (l.getD i default) = true := by
  unfold errD at h
  by_cases h0 : betw l.length 1 8 = false
  · rw [if_pos h0] at h; cases h
  · rw [if_neg h0] at h
    have h1 : betw l.length 1 8 = true := by simpa using h0
    rw [betw_iff] at h1
    by_cases h2 : allB l.length (fun i => sltOk (l.getD i default)) = false
    · rw [if_pos h2] at h; cases h
    · exact ⟨by omega, by omega, allB_iff.1 (by simpa using h2)⟩
/-- what is read of a slot -/
def readT (c : Slt) : ByteArray := if c.has = true then c.wait else c.safe
set_option maxHeartbeats 1000000 in
theorem read_no (a : Option Addr) (cap : Nat) (l : List Slt) (s : Int) (w : World) (hl : l.length ≤ 9223372036854775807) (ha : slotsAt w a l) (h : errS l s ≠ 0) :
    Calls Try.prog 9 #[diskV a l.length cap, .int .i64 s] w fun e w' => e = .returned (.tuple #[.string ⟨#[]⟩, .int .i64 (errS l s)]) ∧ Below w.heap.size w w' := by
  have KC : Hid (∀ w1, Below w.heap.size w w1 → Calls Try.prog 21 #[diskV a l.length cap, .int .i64 s] w1 fun e w' => e = .returned (.int .i64 (errS l s)) ∧ Below w1.heap.size w1 w') := fun w1 hb => checkSlot_any a cap l s w1 hl (slotsAt_below ha hb)
  obtain ⟨E, hE⟩ : ∃ z, errS l s = z := ⟨_, rfl⟩
  rw [hE] at KC h ⊢
  clear hE ha
  have hb' : (E == 0) = false := by simpa using h
  obtain ⟨n, hn⟩ : ∃ z, l.length = z := ⟨_, rfl⟩
  rw [hn] at KC ⊢
  clear hn hl
  unfold diskV at KC ⊢
  go_enter Try.func9, Try.ntmps9
  go_wp2_with (go_at_call 21; refine (KC.out _ ((Below.refl _ _).alloc (Nat.le_refl _) _)).mono ?_; rintro e w1 ⟨rfl, hb1⟩)
  go_ret2
  exact ⟨rfl, ((Below.refl _ _).alloc (Nat.le_refl _) _).trans (hb1.mono (by simp))⟩
theorem ret_two_s {a b : ByteArray} {n : Int} (h : a = b) : Ending.returned (.tuple #[.string a, .int .i64 n]) = .returned (.tuple #[.string b, .int .i64 n]) := by rw [h]
set_option maxHeartbeats 1000000 in
theorem read_yes (a : Option Addr) (cap : Nat) (l : List Slt) (k : Nat) (w : World) (hl : l.length ≤ 9223372036854775807) (ha : slotsAt w a l) (hk : k < l.length) (h : errS l k = 0) :
    Calls Try.prog 9 #[diskV a l.length cap, .int .i64 k] w fun e w' => e = .returned (.tuple #[.string (readT (l.getD k default)), .int .i64 0]) ∧ Below w.heap.size w w' := by
  have KC : Hid (∀ w1, Below w.heap.size w w1 → Calls Try.prog 21 #[diskV a l.length cap, .int .i64 k] w1 fun e w' => e = .returned (.int .i64 0) ∧ Below w1.heap.size w1 w') := fun w1 hb => by
    have := checkSlot_any a cap l k w1 hl (slotsAt_below ha hb)
    rwa [h] at this
  obtain ⟨b, o, e, x1, x2, x3⟩ := ha k hk
  subst e
  obtain ⟨n, hn⟩ : ∃ z, l.length = z := ⟨_, rfl⟩
  rw [hn] at KC hk hl ⊢
  clear hn ha h
  obtain ⟨⟨sa, wa, ba⟩, hz⟩ : ∃ z, l.getD k default = z := ⟨_, rfl⟩
  rw [hz] at x1 x2 x3 ⊢
  clear hz
  dsimp only at x1 x2 x3
  have i1 : (0 : Int) ≤ (k : Int) := by omega
  have i2 : (k : Int) < (n : Int) := by omega
  unfold diskV at KC ⊢
  obtain ⟨T, hT⟩ : ∃ z, readT ⟨sa, wa, ba⟩ = z := ⟨_, rfl⟩
  have HT : Hid (T = if ba = true then wa else sa) := by show _ = _; rw [← hT]; rfl
  rw [hT]
  clear hT
  have hb0 : Below w.heap.size w (w.alloc (.cells #[.slice (some ⟨b, o, none⟩) n cap] 24)) := (Below.refl _ _).alloc (Nat.le_refl _) _
  cases ba with
  | true =>
    have HT2 : Hid (wa = T) := by show _ = _; rw [HT.out]; rfl
    go_enter Try.func9, Try.ntmps9
    go_wp2_with (go_at_call 21; refine (KC.out _ hb0).mono ?_; rintro e w1 ⟨rfl, hb1⟩; have c0 : w1.cell? ⟨w.heap.size, 0, none⟩ = some (.slice (some ⟨b, o, none⟩) n cap) := (by rw [hb1.cell (p := ⟨w.heap.size, 0, none⟩) (by simp)]; go_simp); have hbw := hb0.trans (hb1.mono hb0.size); have y1 := cell_later hbw x1; have y2 := cell_later hbw x2; have y3 := cell_later hbw x3)
    go_ret2
    exact ⟨ret_two_s HT2.out, hbw.alloc hbw.size _⟩
  | false =>
    have HT2 : Hid (sa = T) := by show _ = _; rw [HT.out]; rfl
    go_enter Try.func9, Try.ntmps9
    go_wp2_with (go_at_call 21; refine (KC.out _ hb0).mono ?_; rintro e w1 ⟨rfl, hb1⟩; have c0 : w1.cell? ⟨w.heap.size, 0, none⟩ = some (.slice (some ⟨b, o, none⟩) n cap) := (by rw [hb1.cell (p := ⟨w.heap.size, 0, none⟩) (by simp)]; go_simp); have hbw := hb0.trans (hb1.mono hb0.size); have y1 := cell_later hbw x1; have y2 := cell_later hbw x2; have y3 := cell_later hbw x3)
    go_ret2
    exact ⟨ret_two_s HT2.out, hbw.alloc hbw.size _⟩
set_option maxHeartbeats 1000000 in
theorem readIn_any (a : Option Addr) (cap : Nat) (l : List Slt) (k : Nat) (w : World) (hl : l.length ≤ 9223372036854775807) (ha : slotsAt w a l) (hk : k < l.length) :
    Calls Try.prog 16 #[diskV a l.length cap, .int .i64 k] w fun e w' => e = .returned (.string (readT (l.getD k default))) ∧ Below w.heap.size w w' := by
  obtain ⟨b, o, e, x1, x2, x3⟩ := ha k hk
  subst e
  obtain ⟨n, hn⟩ : ∃ z, l.length = z := ⟨_, rfl⟩
  rw [hn] at hk hl ⊢
  clear hn ha
  obtain ⟨⟨sa, wa, ba⟩, hz⟩ : ∃ z, l.getD k default = z := ⟨_, rfl⟩
  rw [hz] at x1 x2 x3 ⊢
  clear hz
  dsimp only at x1 x2 x3
  have i1 : (0 : Int) ≤ (k : Int) := by omega
  have i2 : (k : Int) < (n : Int) := by omega
  unfold diskV
  obtain ⟨T, hT⟩ : ∃ z, readT ⟨sa, wa, ba⟩ = z := ⟨_, rfl⟩
  have HT : Hid (T = if ba = true then wa else sa) := by show _ = _; rw [← hT]; rfl
  rw [hT]
  clear hT
  have hlt : b < w.heap.size := World.block_lt_of_cell? _ _ x1
  cases ba with
  | true =>
    have HT2 : Hid (wa = T) := by show _ = _; rw [HT.out]; rfl
    go_enter Try.func16, Try.ntmps16
    go_wp2
    go_ret
    exact ⟨ret_str HT2.out, (Below.refl _ _).alloc (Nat.le_refl _) _⟩
  | false =>
    have HT2 : Hid (sa = T) := by show _ = _; rw [HT.out]; rfl
    go_enter Try.func16, Try.ntmps16
    go_wp2
    go_ret
    exact ⟨ret_str HT2.out, (Below.refl _ _).alloc (Nat.le_refl _) _⟩
end Go.Proofs.Ytdjlnloalpfmoaa.dk
