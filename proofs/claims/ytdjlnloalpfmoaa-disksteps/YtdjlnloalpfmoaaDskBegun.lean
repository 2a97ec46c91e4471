/- New, choose and diskBegun. -/
import Derived.Test.YtdjlnloalpfmoaaDskCrash
namespace Go.Proofs.Ytdjlnloalpfmoaa.dk
open Go.ChangeShapes Go.WideShapes Go.ChangeAt Go.RowKit
set_option linter.unusedVariables false
set_option linter.unusedSimpArgs false
def noS (n : Nat) : List Slt := List.replicate n ⟨⟨#[]⟩, ⟨#[]⟩, false⟩
theorem noS_len (n : Nat) : (noS n).length = n := List.length_replicate
theorem made0 : (madeCells (Value.agg #[.string ⟨#[]⟩, .string ⟨#[]⟩, .bool false]).cells (0 * 3)).toList = sltCells (noS 0) := by kernel_rfl
theorem made1 : (madeCells (Value.agg #[.string ⟨#[]⟩, .string ⟨#[]⟩, .bool false]).cells (1 * 3)).toList = sltCells (noS 1) := by kernel_rfl
theorem made2 : (madeCells (Value.agg #[.string ⟨#[]⟩, .string ⟨#[]⟩, .bool false]).cells (2 * 3)).toList = sltCells (noS 2) := by kernel_rfl
theorem made3 : (madeCells (Value.agg #[.string ⟨#[]⟩, .string ⟨#[]⟩, .bool false]).cells (3 * 3)).toList = sltCells (noS 3) := by kernel_rfl
theorem made4 : (madeCells (Value.agg #[.string ⟨#[]⟩, .string ⟨#[]⟩, .bool false]).cells (4 * 3)).toList = sltCells (noS 4) := by kernel_rfl
theorem made5 : (madeCells (Value.agg #[.string ⟨#[]⟩, .string ⟨#[]⟩, .bool false]).cells (5 * 3)).toList = sltCells (noS 5) := by kernel_rfl
theorem made6 : (madeCells (Value.agg #[.string ⟨#[]⟩, .string ⟨#[]⟩, .bool false]).cells (6 * 3)).toList = sltCells (noS 6) := by kernel_rfl
theorem made7 : (madeCells (Value.agg #[.string ⟨#[]⟩, .string ⟨#[]⟩, .bool false]).cells (7 * 3)).toList = sltCells (noS 7) := by kernel_rfl
theorem made8 : (madeCells (Value.agg #[.string ⟨#[]⟩, .string ⟨#[]⟩, .bool false]).cells (8 * 3)).toList = sltCells (noS 8) := by kernel_rfl
theorem made_slots (n : Nat) (h : n ≤ 8) : (madeCells (Value.agg #[.string ⟨#[]⟩, .string ⟨#[]⟩, .bool false]).cells (n * 3)).toList = sltCells (noS n) := by
  match n, h with
  | 0, _ => exact made0
  | 1, _ => exact made1
  | 2, _ => exact made2
  | 3, _ => exact made3
  | 4, _ => exact made4
  | 5, _ => exact made5
  | 6, _ => exact made6
  | 7, _ => exact made7
  | 8, _ => exact made8
theorem new_no (n : Int) (w : World) (h : betw n 1 8 = false) :
    Calls Try.prog 5 #[.int .i64 n] w fun e w' => e = .returned (.tuple #[.agg #[.slice none 0 0], .int .i64 3]) ∧ Below w.heap.size w w' := by
  have KC : Hid (∀ w1, Calls Try.prog 20 #[.int .i64 n] w1 fun e w' => e = .returned (.bool false) ∧ w' = w1) := fun w1 => by rw [← h]; exact countRight_any n w1
  clear h
  go_enter Try.func5, Try.ntmps5
  go_wp2_with (go_at_call 20; refine (KC.out _).mono ?_; rintro e w1 ⟨rfl, hw⟩; subst hw)
  exact bodyPost_ret (v := .tuple #[.agg #[.slice none 0 0], .int .i64 3]) (by simp [results, Try.results5, go_sem]) rfl ⟨rfl, (Below.refl _ _).alloc (Nat.le_refl _) _⟩
set_option maxHeartbeats 1000000 in
theorem new_yes (n : Nat) (w : World) (h1 : 1 ≤ n) (h8 : n ≤ 8) :
    Calls Try.prog 5 #[.int .i64 n] w fun e w' => (∃ ad cp, e = .returned (.tuple #[.agg #[.slice ad n cp], .int .i64 0]) ∧ ownS w' (w.heap.size + 1) (.slice ad n cp) (noS n)) ∧ Below w.heap.size w w' := by
  have KC : Hid (∀ w1, Calls Try.prog 20 #[.int .i64 n] w1 fun e w' => e = .returned (.bool true) ∧ w' = w1) := fun w1 => by
    have := countRight_any n w1
    rwa [(betw_iff n 1 8).2 (by omega)] at this
  obtain ⟨i0, hi, hz0, hz1, hz2⟩ := info_parts infoS
  have HI : Hid (Try.prog.info? 47 = some i0 ∧ i0.zero = some (.agg #[.string ⟨#[]⟩, .string ⟨#[]⟩, .bool false]) ∧ i0.size = 3 ∧ i0.bytes = 40) := ⟨hi, hz0, hz1, hz2⟩
  clear hi hz0 hz1 hz2
  go_enter Try.func5, Try.ntmps5
  go_wp2_with (first
    | (go_at_call 20; refine (KC.out _).mono ?_; rintro e w1 ⟨rfl, hw⟩; subst hw)
    | (at_make; refine wpList_make_full _ rfl _ _ 22 rfl (w.heap.size + 1) 47 i0 (.agg #[.string ⟨#[]⟩, .string ⟨#[]⟩, .bool false]) 3 Try.underlying22 HI.out.1 HI.out.2.1 HI.out.2.2.1 .i64 .i64 _ _ n rfl rfl rfl rfl (by rw [HI.out.2.2.2]; omega) (by unfold maxLen; omega) (by simp) ?_; intro wm hown hgrow; have hbm : Below (w.heap.size + 1) (w.alloc (.cells #[.slice none 0 0] 24)) wm := (Below.refl _ _).grown hgrow (by simp) (fun k hk => by cases hk); have y0 : wm.cell? ⟨w.heap.size, 0, none⟩ = some (.slice none 0 0) := (by rw [hbm.cell (p := ⟨w.heap.size, 0, none⟩) (by simp)]; go_simp); have yf : wm.frozen? ⟨w.heap.size, 0, none⟩ = false := (by rw [hbm.frozen (p := ⟨w.heap.size, 0, none⟩) (by simp)]; go_simp)))
  rw [made_slots n h8] at hown
  have hown2 : ownS wm (w.heap.size + 1) (.slice (some ⟨w.heap.size + 1, 0, none⟩) n n) (noS n) := by
    unfold ownS; rw [noS_len]; simpa using hown
  have hO2 := ownsRow_setCell_below hown2 (a := ⟨w.heap.size, 0, none⟩) (by simp) (.slice (some ⟨w.heap.size + 1, 0, none⟩) n n)
  have y3 : (wm.setCell ⟨w.heap.size, 0, none⟩ (.slice (some ⟨w.heap.size + 1, 0, none⟩) n n)).cell? ⟨w.heap.size, 0, none⟩ = some (.slice (some ⟨w.heap.size + 1, 0, none⟩) n n) := World.cell?_setCell_same _ _ _ y0
  exact bodyPost_ret (v := .tuple #[.agg #[.slice (some ⟨w.heap.size + 1, 0, none⟩) n n], .int .i64 0]) (by simp [results, Try.results5, go_sem, y3]) rfl ⟨⟨_, _, rfl, hO2⟩, (((Below.refl _ _).alloc (Nat.le_refl _) _).trans (hbm.mono (by omega))).setCell (by simp) _⟩

/-- the place that a number chooses -/
def pick (c : Int) (n : Nat) : Nat := (if c < 0 then -(c + 1) else c).toNat % n
theorem pick_lt (c : Int) {n : Nat} (h : 0 < n) : pick c n < n := Nat.mod_lt _ h
set_option maxHeartbeats 1000000 in
theorem choose_any (c : Int) (n : Nat) (w : World) (h0 : 0 < n) (hn : n ≤ 9223372036854775807) (h1 : -9223372036854775808 ≤ c) (h2 : c ≤ 9223372036854775807) :
    Calls Try.prog 18 #[.int .i64 c, .int .i64 n] w fun e w' => e = .returned (.int .i64 (pick c n)) ∧ w' = w := by
  have hn0 : ((n : Int) == 0) = false := by simp; omega
  by_cases hc : c < 0
  · have e1 : IntKind.i64.wrap (c + 1) = c + 1 := by rw [IntKind.wrap_i64]; omega
    have e2 : IntKind.i64.wrap (-(c + 1)) = -(c + 1) := by rw [IntKind.wrap_i64]; omega
    obtain ⟨m, hm⟩ := Int.eq_ofNat_of_zero_le (a := -(c + 1)) (by omega)
    have e3 : Int.tmod (-(c + 1)) n = ((pick c n : Nat) : Int) := by
      unfold pick; rw [if_pos hc, hm, Int.ofNat_tmod]; simp
    obtain ⟨k, hk⟩ : ∃ z, pick c n = z := ⟨_, rfl⟩
    have hk2 : k < n := by rw [← hk]; exact pick_lt c h0
    rw [hk] at e3 ⊢
    have e4 : IntKind.i64.wrap ((k : Nat) : Int) = k := by rw [IntKind.wrap_i64]; omega
    clear hk hm
    go_enter Try.func18, Try.ntmps18
    go_wp2
    go_ret
    exact ⟨ret_int (by first | rfl | rw [e3] | omega), rfl⟩
  · obtain ⟨m, hm⟩ := Int.eq_ofNat_of_zero_le (a := c) (by omega)
    subst hm
    have e3 : Int.tmod (m : Int) n = ((pick m n : Nat) : Int) := by
      unfold pick; rw [if_neg hc, Int.ofNat_tmod]; simp
    obtain ⟨k, hk⟩ : ∃ z, pick m n = z := ⟨_, rfl⟩
    have hk2 : k < n := by rw [← hk]; exact pick_lt _ h0
    rw [hk] at e3 ⊢
    have e4 : IntKind.i64.wrap ((k : Nat) : Int) = k := by rw [IntKind.wrap_i64]; omega
    clear hk
    go_enter Try.func18, Try.ntmps18
    go_wp2
    go_ret
    exact ⟨ret_int (by first | rfl | rw [e3] | omega), rfl⟩
def abc : ByteArray := ⟨#[97, 98, 99]⟩
def bD : List Slt := mapS (noS 2) (fun i c => wrF 1 ⟨#[97, 98, 99]⟩ i c)
def bC : List Slt := mapS bD (fun i c => crF [0, 2] i c)
theorem b_new : errS (noS 2) 1 = 0 := by kernel_rfl
theorem b_chk : errD bD = 0 := by kernel_rfl
theorem b_rd : errS bD 1 = 0 := by kernel_rfl
theorem b_rc : errS bC 1 = 0 := by kernel_rfl
theorem b_td : readT (bD.getD 1 default) = ⟨#[97, 98, 99]⟩ := by kernel_rfl
theorem b_tc : readT (bC.getD 1 default) = ⟨#[97, 98]⟩ := by kernel_rfl
theorem bD_len : bD.length = 2 := by kernel_rfl
theorem bC_len : bC.length = 2 := by kernel_rfl
theorem b_wait : ∀ i, i < bD.length → (bD.getD i default).wait.size ≤ maxLen := by
  intro i hi
  rw [bD_len] at hi
  match i, hi with
  | 0, _ => exact of_decide_eq_true (by kernel_rfl)
  | 1, _ => exact of_decide_eq_true (by kernel_rfl)
theorem ints2 {w : World} {b : Nat} {x y : Int} (h0 : w.cell? ⟨b, 0, none⟩ = some (.int .i64 x)) (h1 : w.cell? ⟨b, 1, none⟩ = some (.int .i64 y)) : intsAt w (some ⟨b, 0, none⟩) [x, y] := by
  intro i hi
  match i, hi with
  | 0, _ => exact ⟨b, 0, rfl, h0⟩
  | 1, _ => exact ⟨b, 0, rfl, h1⟩
set_option maxRecDepth 10000 in
set_option maxHeartbeats 4000000 in
theorem begun_any (w : World) : Calls Try.prog 13 #[] w fun e w' => e = .returned (.bool true) ∧ Below w.heap.size w w' := by
  have KN : Hid (∀ w1, Calls Try.prog 5 #[.int .i64 2] w1 fun e w' => (∃ ad cp, e = .returned (.tuple #[.agg #[.slice ad 2 cp], .int .i64 0]) ∧ slotsAt w' ad (noS 2)) ∧ Below w1.heap.size w1 w') := fun w1 => (new_yes 2 w1 (by decide) (by decide)).mono (fun e w' ⟨⟨ad, cp, h1, h2⟩, h3⟩ => ⟨⟨ad, cp, h1, (ownS_at h2).1⟩, h3⟩)
  have KW : Hid (∀ ad cp w1, slotsAt w1 ad (noS 2) → Calls Try.prog 7 #[.agg #[.slice ad 2 cp], .int .i64 1, .string ⟨#[97, 98, 99]⟩] w1 fun e w' => (∃ ad cp, e = .returned (.tuple #[.agg #[.slice ad 2 cp], .int .i64 0]) ∧ ownS w' w1.heap.size (.slice ad 2 cp) bD) ∧ Below w1.heap.size w1 w') := fun ad cp w1 h => write_yes ad cp (noS 2) 1 ⟨#[97, 98, 99]⟩ w1 (by decide) h b_new (by decide)
  have KC : Hid (∀ ad cp ca cc w1, slotsAt w1 ad bD → intsAt w1 ca [0, 2] → Calls Try.prog 17 #[.agg #[.slice ad 2 cp], .slice ca 2 cc] w1 fun e w' => (∃ ad cp, e = .returned (.tuple #[.agg #[.slice ad 2 cp], .int .i64 0]) ∧ slotsAt w' ad bC) ∧ Below w1.heap.size w1 w') := fun ad cp ca cc w1 h hi => by
    have := crash_yes ad cp bD ca cc [0, 2] w1 (by rw [bD_len]; decide) h b_chk (by rw [bD_len]; decide) hi (by decide) b_wait
    rw [bD_len] at this
    exact this.mono (fun e w' ⟨⟨ad, cp, h1, h2⟩, h3⟩ => ⟨⟨ad, cp, h1, (ownS_at h2).1⟩, h3⟩)
  have KR1 : Hid (∀ ad cp w1, slotsAt w1 ad bC → Calls Try.prog 9 #[.agg #[.slice ad 2 cp], .int .i64 1] w1 fun e w' => e = .returned (.tuple #[.string ⟨#[97, 98]⟩, .int .i64 0]) ∧ Below w1.heap.size w1 w') := fun ad cp w1 h => by
    have := read_yes ad cp bC 1 w1 (by rw [bC_len]; decide) h (by rw [bC_len]; decide) b_rc
    rw [bC_len, b_tc] at this
    exact this
  have KR2 : Hid (∀ ad cp w1, slotsAt w1 ad bD → Calls Try.prog 9 #[.agg #[.slice ad 2 cp], .int .i64 1] w1 fun e w' => e = .returned (.tuple #[.string ⟨#[97, 98, 99]⟩, .int .i64 0]) ∧ Below w1.heap.size w1 w') := fun ad cp w1 h => by
    have := read_yes ad cp bD 1 w1 (by rw [bD_len]; decide) h (by rw [bD_len]; decide) b_rd
    rw [bD_len, b_td] at this
    exact this
  go_enter Try.func13, Try.ntmps13
  go_wp2_with fail
  refine (KN.out _).mono ?_
  rintro e w1 ⟨⟨ad, cp, rfl, hs1⟩, hb1⟩
  go_wp2_with fail
  refine (KW.out _ _ _ (slotsAt_below hs1 ((Below.refl _ _).alloc (Nat.le_refl _) _))).mono ?_
  rintro e w2 ⟨⟨ad2, cp2, rfl, hs2⟩, hb2⟩
  have hw2 : Below w1.heap.size w1 w2 := ((Below.refl _ _).alloc (Nat.le_refl _) _).trans (hb2.mono (by simp))
  have c1 : w2.cell? ⟨w1.heap.size, 0, none⟩ = some (.slice ad 2 cp) := by rw [hb2.cell (p := ⟨w1.heap.size, 0, none⟩) (by simp)]; go_simp
  have f1 : w2.frozen? ⟨w1.heap.size, 0, none⟩ = false := by rw [hb2.frozen (p := ⟨w1.heap.size, 0, none⟩) (by simp)]; go_simp
  have hw2s := hw2.size
  have hl2 : w1.heap.size < w2.heap.size := World.block_lt_of_cell? _ _ c1
  go_wp2_with fail
  have hO2 : ownS (w2.setCell ⟨w1.heap.size, 0, none⟩ (.slice ad2 2 cp2)) (w1.heap.size + 1) (.slice ad2 2 cp2) bD := ownsRow_setCell_below (World.ownsRow.mono hs2 (by simp)) (a := ⟨w1.heap.size, 0, none⟩) (by simp) _
  have d1 : (w2.setCell ⟨w1.heap.size, 0, none⟩ (.slice ad2 2 cp2)).cell? ⟨w1.heap.size, 0, none⟩ = some (.slice ad2 2 cp2) := World.cell?_setCell_same _ _ _ c1
  have hbw2 : Below w.heap.size w (w2.setCell ⟨w1.heap.size, 0, none⟩ (.slice ad2 2 cp2)) := (hb1.trans (hw2.mono hb1.size)).setCell (by dsimp only; exact hb1.size) _
  have hz2 : (w2.setCell ⟨w1.heap.size, 0, none⟩ (.slice ad2 2 cp2)).heap.size = w2.heap.size := by simp
  generalize w2.setCell ⟨w1.heap.size, 0, none⟩ (.slice ad2 2 cp2) = W2 at *
  have hs3 := (ownS_at hO2).1
  refine (KC.out ad2 cp2 (some ⟨w2.heap.size, 0, none⟩) 2 _ (slotsAt_below hs3 ((Below.refl _ _).alloc (Nat.le_refl _) _)) (ints2 (by rw [← hz2]; go_simp) (by rw [← hz2]; go_simp))).mono ?_
  rintro e w3 ⟨⟨ad3, cp3, rfl, hs4⟩, hb3⟩
  have hw3 : Below W2.heap.size W2 w3 := ((Below.refl _ _).alloc (Nat.le_refl _) _).trans (hb3.mono (by simp))
  have d3 := cell_later hw3 d1
  have hbw3 : Below w.heap.size w w3 := hbw2.trans (hw3.mono hbw2.size)
  have hs5 := slotsAt_below hs3 hw3
  have hl3 : w1.heap.size < w3.heap.size := World.block_lt_of_cell? _ _ d3
  clear hs3 hO2 hs2 hs1 hb3 hb2 hb1 c1 f1
  go_wp2_with fail
  refine (KR1.out ad3 cp3 _ (slotsAt_below hs4 ((Below.refl _ _).alloc (Nat.le_refl _) _))).mono ?_
  rintro e w4 ⟨rfl, hb4⟩
  have hw4 : Below w3.heap.size w3 w4 := ((Below.refl _ _).alloc (Nat.le_refl _) _).trans (hb4.mono (by simp))
  have d4 := cell_later hw4 d3
  go_wp2_with fail
  refine (KR2.out ad2 cp2 _ (slotsAt_below hs5 hw4)).mono ?_
  rintro e w5 ⟨rfl, hb5⟩
  go_wp2
  go_ret
  exact ⟨rfl, (hbw3.trans (hw4.mono hbw3.size)).trans (hb5.mono (hbw3.trans (hw4.mono hbw3.size)).size)⟩
end Go.Proofs.Ytdjlnloalpfmoaa.dk
