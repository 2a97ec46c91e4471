/- Write, Sync, Crash: a disk of one's own; New. -/
import Derived.Test.YtdjlnloalpfmoaaDskCalls
namespace Go.Proofs.Ytdjlnloalpfmoaa.dk
open Go.ChangeShapes Go.WideShapes Go.ChangeAt Go.RowKit
set_option linter.unusedVariables false
set_option linter.unusedSimpArgs false
/-- what becomes of the slots -/
def mapS (l : List Slt) (f : Nat → Slt → Slt) : List Slt := (List.range l.length).map fun i => f i (l.getD i default)
theorem mapS_len (l : List Slt) (f : Nat → Slt → Slt) : (mapS l f).length = l.length := by simp [mapS]
theorem mapS_at (l : List Slt) (f : Nat → Slt → Slt) (i : Nat) (h : i < l.length) : (mapS l f).getD i default = f i (l.getD i default) := by
  simp [mapS, List.getD_eq_getElem?_getD, h]

set_option maxHeartbeats 2000000 in
theorem write_no (a : Option Addr) (cap : Nat) (l : List Slt) (s : Int) (t : ByteArray) (w : World) (hl : l.length ≤ 9223372036854775807) (ha : slotsAt w a l) (h : errS l s ≠ 0) :
    Calls Try.prog 7 #[diskV a l.length cap, .int .i64 s, .string t] w fun e w' => e = .returned (.tuple #[diskV none 0 0, .int .i64 (errS l s)]) ∧ Below w.heap.size w w' := by
  have KC : Hid (∀ w1, Below w.heap.size w w1 → Calls Try.prog 21 #[diskV a l.length cap, .int .i64 s] w1 fun e w' => e = .returned (.int .i64 (errS l s)) ∧ Below w1.heap.size w1 w') := fun w1 hb => checkSlot_any a cap l s w1 hl (slotsAt_below ha hb)
  obtain ⟨E, hE⟩ : ∃ z, errS l s = z := ⟨_, rfl⟩
  rw [hE] at KC h ⊢
  clear hE ha
  have hb' : (E == 0) = false := by simpa using h
  obtain ⟨n, hn⟩ : ∃ z, l.length = z := ⟨_, rfl⟩
  rw [hn] at KC ⊢
  clear hn hl
  unfold diskV at KC ⊢
  have hb0 : Below w.heap.size w ((((w.alloc (.cells #[.slice a n cap] 24)).alloc (.cells #[.int .i64 s] 3)).alloc (.cells #[.string t] 9)).alloc (.cells #[.slice none 0 0] 24)) := by
    repeat (first | exact Below.refl _ _ | (refine Below.alloc ?_ (by simp <;> omega) _))
  go_enter Try.func7, Try.ntmps7
  go_wp2_with (go_at_call 21; refine (KC.out _ hb0).mono ?_; rintro e w1 ⟨rfl, hb1⟩; have d0 : w1.cell? ⟨w.heap.size + 1 + 1 + 1, 0, none⟩ = some (.slice none 0 0) := (by rw [hb1.cell (p := ⟨w.heap.size + 1 + 1 + 1, 0, none⟩) (by simp <;> omega)]; go_simp); have df : w1.frozen? ⟨w.heap.size + 1 + 1 + 1, 0, none⟩ = false := (by rw [hb1.frozen (p := ⟨w.heap.size + 1 + 1 + 1, 0, none⟩) (by simp <;> omega)]; go_simp); have hbw := hb0.trans (hb1.mono hb0.size))
  have y3 : (w1.setCell ⟨w.heap.size + 1 + 1 + 1, 0, none⟩ (.slice none 0 0)).cell? ⟨w.heap.size + 1 + 1 + 1, 0, none⟩ = some (.slice none 0 0) := World.cell?_setCell_same _ _ _ d0
  exact bodyPost_ret (v := .tuple #[.agg #[.slice none 0 0], .int .i64 E]) (by simp [results, Try.results7, go_sem, y3]) rfl ⟨rfl, hbw.setCell (by dsimp only; omega) _⟩
set_option maxHeartbeats 2000000 in
theorem write_yes (a : Option Addr) (cap : Nat) (l : List Slt) (s : Int) (t : ByteArray) (w : World) (hl : l.length ≤ 9223372036854775807) (ha : slotsAt w a l) (h : errS l s = 0) (h8 : l.length ≤ 8)  :
    Calls Try.prog 7 #[diskV a l.length cap, .int .i64 s, .string t] w fun e w' => (∃ ad cp, e = .returned (.tuple #[diskV ad l.length cp, .int .i64 0]) ∧ ownS w' w.heap.size (.slice ad l.length cp) (mapS l (fun i c => wrF s t i c))) ∧ Below w.heap.size w w' := by
  have KC : Hid (∀ w1, Below w.heap.size w w1 → Calls Try.prog 21 #[diskV a l.length cap, .int .i64 s] w1 fun e w' => e = .returned (.int .i64 0) ∧ Below w1.heap.size w1 w') := fun w1 hb => by
    have := checkSlot_any a cap l s w1 hl (slotsAt_below ha hb)
    rwa [h] at this
  have KT : Hid (∀ BS BT w1, Below w.heap.size w w1 → w1.cell? ⟨BS, 0, none⟩ = some (.int .i64 s) → w1.cell? ⟨BT, 0, none⟩ = some (.string t) → Calls Try.prog 22 #[diskV a l.length cap, .func (.func 23) #[] #[.pointer (some ⟨BS, 0, none⟩), .pointer (some ⟨BT, 0, none⟩)]] w1 fun e w' => (∃ ad cp, e = .returned (diskV ad l.length cp) ∧ ownS w' w1.heap.size (.slice ad l.length cp) (mapS l (fun i c => wrF s t i c))) ∧ Below w1.heap.size w1 w') := fun BS BT w1 hb p0 p1 =>
    turned_any 23 (enters_of Try.func23 (by kernel_rfl) rfl) #[.pointer (some ⟨BS, 0, none⟩), .pointer (some ⟨BT, 0, none⟩)] (fun i => (fun i c => wrF s t i c) i (l.getD i default)) a cap l w1 h8 (slotsAt_below ha hb) (fun i w2 hi hb2 => write1_any i s t _ BS BT w2 (cell_later hb2 p0) (cell_later hb2 p1))
  clear h
  obtain ⟨n, hn⟩ : ∃ z, l.length = z := ⟨_, rfl⟩
  rw [hn] at KC KT hl h8 ⊢
  obtain ⟨R, hR⟩ : ∃ z, mapS l (fun i c => wrF s t i c) = z := ⟨_, rfl⟩
  rw [hR] at KT ⊢
  clear hn hR ha
  unfold diskV at KC KT ⊢
  have hb0 : Below w.heap.size w ((((w.alloc (.cells #[.slice a n cap] 24)).alloc (.cells #[.int .i64 s] 3)).alloc (.cells #[.string t] 9)).alloc (.cells #[.slice none 0 0] 24)) := by
    repeat (first | exact Below.refl _ _ | (refine Below.alloc ?_ (by simp <;> omega) _))
  go_enter Try.func7, Try.ntmps7
  go_wp2_with (first
    | (go_at_call 21; refine (KC.out _ hb0).mono ?_; rintro e w1 ⟨rfl, hb1⟩; have c0 : w1.cell? ⟨w.heap.size, 0, none⟩ = some (.slice a n cap) := (by rw [hb1.cell (p := ⟨w.heap.size, 0, none⟩) (by simp <;> omega)]; go_simp); have c1 : w1.cell? ⟨w.heap.size + 1, 0, none⟩ = some (.int .i64 s) := (by rw [hb1.cell (p := ⟨w.heap.size + 1, 0, none⟩) (by simp <;> omega)]; go_simp); have c2 : w1.cell? ⟨w.heap.size + 1 + 1, 0, none⟩ = some (.string t) := (by rw [hb1.cell (p := ⟨w.heap.size + 1 + 1, 0, none⟩) (by simp <;> omega)]; go_simp); have d0 : w1.cell? ⟨w.heap.size + 1 + 1 + 1, 0, none⟩ = some (.slice none 0 0) := (by rw [hb1.cell (p := ⟨w.heap.size + 1 + 1 + 1, 0, none⟩) (by simp <;> omega)]; go_simp); have df : w1.frozen? ⟨w.heap.size + 1 + 1 + 1, 0, none⟩ = false := (by rw [hb1.frozen (p := ⟨w.heap.size + 1 + 1 + 1, 0, none⟩) (by simp <;> omega)]; go_simp); have hbw := hb0.trans (hb1.mono hb0.size))
    | (go_at_call 22; refine (KT.out _ _ _ hbw (by exact c1) (by exact c2)).mono ?_; rintro e w2 ⟨⟨ad, cp, rfl, hown⟩, hb2⟩; have d2 := cell_later hb2 d0; have df2 : w2.frozen? ⟨w.heap.size + 1 + 1 + 1, 0, none⟩ = false := (by rw [hb2.frozen (p := ⟨w.heap.size + 1 + 1 + 1, 0, none⟩) (World.block_lt_of_cell? _ _ d0)]; exact df)))
  have hlt : w.heap.size + 1 + 1 + 1 < w1.heap.size := World.block_lt_of_cell? _ _ d0
  have y3 : (w2.setCell ⟨w.heap.size + 1 + 1 + 1, 0, none⟩ (.slice ad n cp)).cell? ⟨w.heap.size + 1 + 1 + 1, 0, none⟩ = some (.slice ad n cp) := World.cell?_setCell_same _ _ _ d2
  have hO2 := ownsRow_setCell_below hown (a := ⟨w.heap.size + 1 + 1 + 1, 0, none⟩) hlt (.slice ad n cp)
  exact bodyPost_ret (v := .tuple #[.agg #[.slice ad n cp], .int .i64 0]) (by simp [results, Try.results7, go_sem, y3]) rfl ⟨⟨ad, cp, rfl, World.ownsRow.mono hO2 (by omega)⟩, (hbw.trans (hb2.mono hbw.size)).setCell (by dsimp only; omega) _⟩
set_option maxHeartbeats 2000000 in
theorem sync_no (a : Option Addr) (cap : Nat) (l : List Slt) (s : Int) (w : World) (hl : l.length ≤ 9223372036854775807) (ha : slotsAt w a l) (h : errS l s ≠ 0) :
    Calls Try.prog 8 #[diskV a l.length cap, .int .i64 s] w fun e w' => e = .returned (.tuple #[diskV none 0 0, .int .i64 (errS l s)]) ∧ Below w.heap.size w w' := by
  have KC : Hid (∀ w1, Below w.heap.size w w1 → Calls Try.prog 21 #[diskV a l.length cap, .int .i64 s] w1 fun e w' => e = .returned (.int .i64 (errS l s)) ∧ Below w1.heap.size w1 w') := fun w1 hb => checkSlot_any a cap l s w1 hl (slotsAt_below ha hb)
  obtain ⟨E, hE⟩ : ∃ z, errS l s = z := ⟨_, rfl⟩
  rw [hE] at KC h ⊢
  clear hE ha
  have hb' : (E == 0) = false := by simpa using h
  obtain ⟨n, hn⟩ : ∃ z, l.length = z := ⟨_, rfl⟩
  rw [hn] at KC ⊢
  clear hn hl
  unfold diskV at KC ⊢
  have hb0 : Below w.heap.size w (((w.alloc (.cells #[.slice a n cap] 24)).alloc (.cells #[.int .i64 s] 3)).alloc (.cells #[.slice none 0 0] 24)) := by
    repeat (first | exact Below.refl _ _ | (refine Below.alloc ?_ (by simp <;> omega) _))
  go_enter Try.func8, Try.ntmps8
  go_wp2_with (go_at_call 21; refine (KC.out _ hb0).mono ?_; rintro e w1 ⟨rfl, hb1⟩; have d0 : w1.cell? ⟨w.heap.size + 1 + 1, 0, none⟩ = some (.slice none 0 0) := (by rw [hb1.cell (p := ⟨w.heap.size + 1 + 1, 0, none⟩) (by simp <;> omega)]; go_simp); have df : w1.frozen? ⟨w.heap.size + 1 + 1, 0, none⟩ = false := (by rw [hb1.frozen (p := ⟨w.heap.size + 1 + 1, 0, none⟩) (by simp <;> omega)]; go_simp); have hbw := hb0.trans (hb1.mono hb0.size))
  have y3 : (w1.setCell ⟨w.heap.size + 1 + 1, 0, none⟩ (.slice none 0 0)).cell? ⟨w.heap.size + 1 + 1, 0, none⟩ = some (.slice none 0 0) := World.cell?_setCell_same _ _ _ d0
  exact bodyPost_ret (v := .tuple #[.agg #[.slice none 0 0], .int .i64 E]) (by simp [results, Try.results8, go_sem, y3]) rfl ⟨rfl, hbw.setCell (by dsimp only; omega) _⟩
set_option maxHeartbeats 2000000 in
theorem sync_yes (a : Option Addr) (cap : Nat) (l : List Slt) (s : Int) (w : World) (hl : l.length ≤ 9223372036854775807) (ha : slotsAt w a l) (h : errS l s = 0) (h8 : l.length ≤ 8)  :
    Calls Try.prog 8 #[diskV a l.length cap, .int .i64 s] w fun e w' => (∃ ad cp, e = .returned (.tuple #[diskV ad l.length cp, .int .i64 0]) ∧ ownS w' w.heap.size (.slice ad l.length cp) (mapS l (fun i c => syF s i c))) ∧ Below w.heap.size w w' := by
  have KC : Hid (∀ w1, Below w.heap.size w w1 → Calls Try.prog 21 #[diskV a l.length cap, .int .i64 s] w1 fun e w' => e = .returned (.int .i64 0) ∧ Below w1.heap.size w1 w') := fun w1 hb => by
    have := checkSlot_any a cap l s w1 hl (slotsAt_below ha hb)
    rwa [h] at this
  have KT : Hid (∀ BS w1, Below w.heap.size w w1 → w1.cell? ⟨BS, 0, none⟩ = some (.int .i64 s) → Calls Try.prog 22 #[diskV a l.length cap, .func (.func 24) #[] #[.pointer (some ⟨BS, 0, none⟩)]] w1 fun e w' => (∃ ad cp, e = .returned (diskV ad l.length cp) ∧ ownS w' w1.heap.size (.slice ad l.length cp) (mapS l (fun i c => syF s i c))) ∧ Below w1.heap.size w1 w') := fun BS w1 hb p0 =>
    turned_any 24 (enters_of Try.func24 (by kernel_rfl) rfl) #[.pointer (some ⟨BS, 0, none⟩)] (fun i => (fun i c => syF s i c) i (l.getD i default)) a cap l w1 h8 (slotsAt_below ha hb) (fun i w2 hi hb2 => sync1_any i s _ BS w2 (cell_later hb2 p0))
  clear h
  obtain ⟨n, hn⟩ : ∃ z, l.length = z := ⟨_, rfl⟩
  rw [hn] at KC KT hl h8 ⊢
  obtain ⟨R, hR⟩ : ∃ z, mapS l (fun i c => syF s i c) = z := ⟨_, rfl⟩
  rw [hR] at KT ⊢
  clear hn hR ha
  unfold diskV at KC KT ⊢
  have hb0 : Below w.heap.size w (((w.alloc (.cells #[.slice a n cap] 24)).alloc (.cells #[.int .i64 s] 3)).alloc (.cells #[.slice none 0 0] 24)) := by
    repeat (first | exact Below.refl _ _ | (refine Below.alloc ?_ (by simp <;> omega) _))
  go_enter Try.func8, Try.ntmps8
  go_wp2_with (first
    | (go_at_call 21; refine (KC.out _ hb0).mono ?_; rintro e w1 ⟨rfl, hb1⟩; have c0 : w1.cell? ⟨w.heap.size, 0, none⟩ = some (.slice a n cap) := (by rw [hb1.cell (p := ⟨w.heap.size, 0, none⟩) (by simp <;> omega)]; go_simp); have c1 : w1.cell? ⟨w.heap.size + 1, 0, none⟩ = some (.int .i64 s) := (by rw [hb1.cell (p := ⟨w.heap.size + 1, 0, none⟩) (by simp <;> omega)]; go_simp); have d0 : w1.cell? ⟨w.heap.size + 1 + 1, 0, none⟩ = some (.slice none 0 0) := (by rw [hb1.cell (p := ⟨w.heap.size + 1 + 1, 0, none⟩) (by simp <;> omega)]; go_simp); have df : w1.frozen? ⟨w.heap.size + 1 + 1, 0, none⟩ = false := (by rw [hb1.frozen (p := ⟨w.heap.size + 1 + 1, 0, none⟩) (by simp <;> omega)]; go_simp); have hbw := hb0.trans (hb1.mono hb0.size))
    | (go_at_call 22; refine (KT.out _ _ hbw (by exact c1)).mono ?_; rintro e w2 ⟨⟨ad, cp, rfl, hown⟩, hb2⟩; have d2 := cell_later hb2 d0; have df2 : w2.frozen? ⟨w.heap.size + 1 + 1, 0, none⟩ = false := (by rw [hb2.frozen (p := ⟨w.heap.size + 1 + 1, 0, none⟩) (World.block_lt_of_cell? _ _ d0)]; exact df)))
  have hlt : w.heap.size + 1 + 1 < w1.heap.size := World.block_lt_of_cell? _ _ d0
  have y3 : (w2.setCell ⟨w.heap.size + 1 + 1, 0, none⟩ (.slice ad n cp)).cell? ⟨w.heap.size + 1 + 1, 0, none⟩ = some (.slice ad n cp) := World.cell?_setCell_same _ _ _ d2
  have hO2 := ownsRow_setCell_below hown (a := ⟨w.heap.size + 1 + 1, 0, none⟩) hlt (.slice ad n cp)
  exact bodyPost_ret (v := .tuple #[.agg #[.slice ad n cp], .int .i64 0]) (by simp [results, Try.results8, go_sem, y3]) rfl ⟨⟨ad, cp, rfl, World.ownsRow.mono hO2 (by omega)⟩, (hbw.trans (hb2.mono hbw.size)).setCell (by dsimp only; omega) _⟩
set_option maxHeartbeats 2000000 in
theorem crash_no (a : Option Addr) (cap : Nat) (l : List Slt) (ca : Option Addr) (cc : Nat) (cs : List Int) (w : World) (hl : l.length ≤ 9223372036854775807) (ha : slotsAt w a l) (h : errD l ≠ 0) :
    Calls Try.prog 17 #[diskV a l.length cap, .slice ca cs.length cc] w fun e w' => e = .returned (.tuple #[diskV none 0 0, .int .i64 (errD l)]) ∧ Below w.heap.size w w' := by
  have KC : Hid (∀ w1, Below w.heap.size w w1 → Calls Try.prog 11 #[diskV a l.length cap] w1 fun e w' => e = .returned (.int .i64 (errD l)) ∧ Below w1.heap.size w1 w') := fun w1 hb => check_any a cap l w1 hl (slotsAt_below ha hb)
  obtain ⟨E, hE⟩ : ∃ z, errD l = z := ⟨_, rfl⟩
  rw [hE] at KC h ⊢
  clear hE ha
  have hb' : (E == 0) = false := by simpa using h
  obtain ⟨n, hn⟩ : ∃ z, l.length = z := ⟨_, rfl⟩
  rw [hn] at KC ⊢
  clear hn hl
  unfold diskV at KC ⊢
  have hb0 : Below w.heap.size w (((w.alloc (.cells #[.slice a n cap] 24)).alloc (.cells #[.slice ca cs.length cc] 40)).alloc (.cells #[.slice none 0 0] 24)) := by
    repeat (first | exact Below.refl _ _ | (refine Below.alloc ?_ (by simp <;> omega) _))
  go_enter Try.func17, Try.ntmps17
  go_wp2_with (go_at_call 11; refine (KC.out _ hb0).mono ?_; rintro e w1 ⟨rfl, hb1⟩; have d0 : w1.cell? ⟨w.heap.size + 1 + 1, 0, none⟩ = some (.slice none 0 0) := (by rw [hb1.cell (p := ⟨w.heap.size + 1 + 1, 0, none⟩) (by simp <;> omega)]; go_simp); have df : w1.frozen? ⟨w.heap.size + 1 + 1, 0, none⟩ = false := (by rw [hb1.frozen (p := ⟨w.heap.size + 1 + 1, 0, none⟩) (by simp <;> omega)]; go_simp); have hbw := hb0.trans (hb1.mono hb0.size))
  have y3 : (w1.setCell ⟨w.heap.size + 1 + 1, 0, none⟩ (.slice none 0 0)).cell? ⟨w.heap.size + 1 + 1, 0, none⟩ = some (.slice none 0 0) := World.cell?_setCell_same _ _ _ d0
  exact bodyPost_ret (v := .tuple #[.agg #[.slice none 0 0], .int .i64 E]) (by simp [results, Try.results17, go_sem, y3]) rfl ⟨rfl, hbw.setCell (by dsimp only; omega) _⟩
set_option maxHeartbeats 2000000 in
theorem crash_yes (a : Option Addr) (cap : Nat) (l : List Slt) (ca : Option Addr) (cc : Nat) (cs : List Int) (w : World) (hl : l.length ≤ 9223372036854775807) (ha : slotsAt w a l) (h : errD l = 0) (h8 : l.length ≤ 8) (hca : intsAt w ca cs) (hcl : cs.length ≤ 9223372036854775807) (hwt : ∀ i, i < l.length → (l.getD i default).wait.size ≤ maxLen) :
    Calls Try.prog 17 #[diskV a l.length cap, .slice ca cs.length cc] w fun e w' => (∃ ad cp, e = .returned (.tuple #[diskV ad l.length cp, .int .i64 0]) ∧ ownS w' w.heap.size (.slice ad l.length cp) (mapS l (fun i c => crF cs i c))) ∧ Below w.heap.size w w' := by
  have KC : Hid (∀ w1, Below w.heap.size w w1 → Calls Try.prog 11 #[diskV a l.length cap] w1 fun e w' => e = .returned (.int .i64 0) ∧ Below w1.heap.size w1 w') := fun w1 hb => by
    have := check_any a cap l w1 hl (slotsAt_below ha hb)
    rwa [h] at this
  have KT : Hid (∀ BS w1, Below w.heap.size w w1 → w1.cell? ⟨BS, 0, none⟩ = some (.slice ca cs.length cc) → Calls Try.prog 22 #[diskV a l.length cap, .func (.func 29) #[] #[.pointer (some ⟨BS, 0, none⟩)]] w1 fun e w' => (∃ ad cp, e = .returned (diskV ad l.length cp) ∧ ownS w' w1.heap.size (.slice ad l.length cp) (mapS l (fun i c => crF cs i c))) ∧ Below w1.heap.size w1 w') := fun BS w1 hb p0 =>
    turned_any 29 (enters_of Try.func29 (by kernel_rfl) rfl) #[.pointer (some ⟨BS, 0, none⟩)] (fun i => (fun i c => crF cs i c) i (l.getD i default)) a cap l w1 h8 (slotsAt_below ha hb) (fun i w2 hi hb2 => crash1_any i _ ca cc cs BS w2 (hwt i hi) hcl (intsAt_below (intsAt_below hca hb) hb2) (cell_later hb2 p0))
  clear h
  obtain ⟨n, hn⟩ : ∃ z, l.length = z := ⟨_, rfl⟩
  rw [hn] at KC KT hl h8 ⊢
  obtain ⟨R, hR⟩ : ∃ z, mapS l (fun i c => crF cs i c) = z := ⟨_, rfl⟩
  rw [hR] at KT ⊢
  clear hn hR ha
  unfold diskV at KC KT ⊢
  have hb0 : Below w.heap.size w (((w.alloc (.cells #[.slice a n cap] 24)).alloc (.cells #[.slice ca cs.length cc] 40)).alloc (.cells #[.slice none 0 0] 24)) := by
    repeat (first | exact Below.refl _ _ | (refine Below.alloc ?_ (by simp <;> omega) _))
  go_enter Try.func17, Try.ntmps17
  go_wp2_with (first
    | (go_at_call 11; refine (KC.out _ hb0).mono ?_; rintro e w1 ⟨rfl, hb1⟩; have c0 : w1.cell? ⟨w.heap.size, 0, none⟩ = some (.slice a n cap) := (by rw [hb1.cell (p := ⟨w.heap.size, 0, none⟩) (by simp <;> omega)]; go_simp); have c1 : w1.cell? ⟨w.heap.size + 1, 0, none⟩ = some (.slice ca cs.length cc) := (by rw [hb1.cell (p := ⟨w.heap.size + 1, 0, none⟩) (by simp <;> omega)]; go_simp); have d0 : w1.cell? ⟨w.heap.size + 1 + 1, 0, none⟩ = some (.slice none 0 0) := (by rw [hb1.cell (p := ⟨w.heap.size + 1 + 1, 0, none⟩) (by simp <;> omega)]; go_simp); have df : w1.frozen? ⟨w.heap.size + 1 + 1, 0, none⟩ = false := (by rw [hb1.frozen (p := ⟨w.heap.size + 1 + 1, 0, none⟩) (by simp <;> omega)]; go_simp); have hbw := hb0.trans (hb1.mono hb0.size))
    | (go_at_call 22; refine (KT.out _ _ hbw (by exact c1)).mono ?_; rintro e w2 ⟨⟨ad, cp, rfl, hown⟩, hb2⟩; have d2 := cell_later hb2 d0; have df2 : w2.frozen? ⟨w.heap.size + 1 + 1, 0, none⟩ = false := (by rw [hb2.frozen (p := ⟨w.heap.size + 1 + 1, 0, none⟩) (World.block_lt_of_cell? _ _ d0)]; exact df)))
  have hlt : w.heap.size + 1 + 1 < w1.heap.size := World.block_lt_of_cell? _ _ d0
  have y3 : (w2.setCell ⟨w.heap.size + 1 + 1, 0, none⟩ (.slice ad n cp)).cell? ⟨w.heap.size + 1 + 1, 0, none⟩ = some (.slice ad n cp) := World.cell?_setCell_same _ _ _ d2
  have hO2 := ownsRow_setCell_below hown (a := ⟨w.heap.size + 1 + 1, 0, none⟩) hlt (.slice ad n cp)
  exact bodyPost_ret (v := .tuple #[.agg #[.slice ad n cp], .int .i64 0]) (by simp [results, Try.results17, go_sem, y3]) rfl ⟨⟨ad, cp, rfl, World.ownsRow.mono hO2 (by omega)⟩, (hbw.trans (hb2.mono hbw.size)).setCell (by dsimp only; omega) _⟩
end Go.Proofs.Ytdjlnloalpfmoaa.dk
