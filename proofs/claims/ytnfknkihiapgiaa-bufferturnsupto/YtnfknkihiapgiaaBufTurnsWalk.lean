/- BufferTurns: the law's body. -/
import Derived.Test.YtnfknkihiapgiaaBufMeet
import Derived.Test.YtnfknkihiapgiaaBufRMeet
import Derived.Test.YtnfknkihiapgiaaBufTellsWalk
import Derived.Deep.RegionHeld3
namespace Go.Proofs.Ytnfknkihiapgiaa.bf
open Go.ChangeShapes Go.WideShapes Go.ChangeAt Go.RowKit
open vl
set_option linter.unusedVariables false
set_option linter.unusedSimpArgs false
attribute [local go_sem] Oper.semAt_some
theorem meetP_row (p : Plc) (y : Ent) : (meetP p y).row = y.row := by
  unfold meetP
  split
  · rfl
  · rfl
theorem meet_parts (p : Plc) (b : Buf) : partsB (meetB p b) = (partsB b).map fun l => l.map (meetP p) := by simp [partsB, meetB]
theorem meet_rows {b : Buf} {p : Plc} (ok : okB b) : (∀ l ∈ partsB (meetB p b), l.length ≤ 9223372036854775807) ∧ ∀ y ∈ entsB (meetB p b), y.row.length ≤ 9223372036854775807 := by
  have hsm := ok.small
  refine ⟨fun l hl => ?_, fun y hy => ?_⟩
  · rw [meet_parts] at hl
    obtain ⟨l0, h0, rfl⟩ := List.mem_map.1 hl
    have := hsm.1 l0 h0
    rw [List.length_map]
    omega
  · obtain ⟨l, hl, hy⟩ := List.mem_flatten.1 hy
    rw [meet_parts] at hl
    obtain ⟨l0, h0, rfl⟩ := List.mem_map.1 hl
    obtain ⟨y0, hy0, rfl⟩ := List.mem_map.1 hy
    have := hsm.2.2 y0 (List.mem_flatten.2 ⟨l0, h0, hy0⟩)
    rw [meetP_row]
    omega
set_option maxRecDepth 100000 in
set_option maxHeartbeats 16000000 in
theorem turns_bad (b : Buf) (x : BX) (p : Plc) (w : World) (h : bufAt w b x) (hw : ∀ y ∈ entsB b, wfE y ∧ wfP (plOf y) ∧ y.key.size ≤ 140737488355328 ∧ y.row.length ≤ 2000000) (hs : (entsB b).length ≤ 4611686018427387904) (he : errB b ≠ 0) :
    Calls Try.prog 4 #[bufV b x, .string p.1, .int .i64 p.2.1, .int .i64 p.2.2] w fun r w' => r = .returned (.bool true) ∧ Below w.heap.size w w' := by
  have hw1 : ∀ y ∈ entsB b, wfE y ∧ wfP (plOf y) := fun y hy => ⟨(hw y hy).1, (hw y hy).2.1⟩
  have KB : Hid (∀ w1, Calls Try.prog 12 #[] w1 fun e w' => e = .returned (.bool true) ∧ Below w1.heap.size w1 w') := fun w1 => begun_any w1
  have KR : Hid (∀ w1, Below w.heap.size w w1 → Calls Try.prog 9 #[bufV b x] w1 fun r w' => r = .returned (.int .i64 (errB b)) ∧ Below w1.heap.size w1 w') := fun w1 hb => rcheck_any b x w1 (bufAt_below h hb) (fun y hy => ⟨(hw y hy).1, (hw y hy).2.2⟩) hs
  have KM : Hid (∀ w1, Below w.heap.size w w1 → Calls Try.prog 15 #[bufV b x, .string p.1, .int .i64 p.2.1, .int .i64 p.2.2] w1 fun r w' => r = .returned (.tuple #[emptyV, .int .i64 (errB b)]) ∧ Below w1.heap.size w1 w') := fun w1 hb => meet_bad b x p w1 (bufAt_below h hb) hw1 hs he
  have KT : Hid (∀ w1, Below w.heap.size w w1 → Calls Try.prog 16 #[bufV b x, .string p.1, .int .i64 p.2.1, .int .i64 p.2.2] w1 fun r w' => r = .returned (.tuple #[emptyV, .int .i64 (errB b)]) ∧ Below w1.heap.size w1 w') := fun w1 hb => take_bad b x p w1 (bufAt_below h hb) hw1 hs he
  have KS : Hid (∀ w1, Calls Try.prog 13 #[.agg #[.int .i64 0, .slice none 0 0, .slice none 0 0], .agg #[.int .i64 0, .slice none 0 0, .slice none 0 0]] w1 fun e w' => e = .returned (.bool true) ∧ Below w1.heap.size w1 w') := fun w1 => empty_same w1
  obtain ⟨E, hE⟩ : ∃ z, errB b = z := ⟨_, rfl⟩
  rw [hE] at KR KM KT he
  have he1 : (E == 0) = false := by simpa using he
  have he2 : (E != 0) = true := by simpa using he
  clear h hw hw1 hs hE
  unfold emptyV at KM KT
  obtain ⟨pk, pt, ps⟩ := p
  dsimp only at KM KT ⊢
  obtain ⟨ra, rc, ⟨⟨m1, m2, m3⟩, ml⟩, rs⟩ := x
  obtain ⟨lim, mem, runs⟩ := b
  rw [show bufV ⟨lim, mem, runs⟩ ⟨ra, rc, ((m1, m2, m3), ml), rs⟩ = .agg #[.int .i64 lim, .slice m1 m2 m3, .slice ra rs.length rc] from rfl] at KR KM KT ⊢
  obtain ⟨n, hn⟩ : ∃ n, rs.length = n := ⟨_, rfl⟩
  rw [hn] at KR KM KT ⊢
  clear hn
  have hb0 : Below w.heap.size w (w.alloc (.cells #[.int .i64 lim, .slice m1 m2 m3, .slice ra n rc] 25)) := (Below.refl _ _).alloc (Nat.le_refl _) _
  go_enter Try.func4, Try.ntmps4
  go_wp2_with (first
    | (go_at_call 15; refine Calls.mono (KM.out _ ?hbb) ?_; (case hbb => (repeat (first | exact hb0 | (refine Below.alloc ?_ (by have := hb0.size; simp <;> omega) _)))); rintro e w1 ⟨rfl, hb1⟩; have hw1 : Below w.heap.size w w1 := (Below.trans (by repeat (first | exact hb0 | (refine Below.alloc ?_ (by have := hb0.size; simp <;> omega) _))) (hb1.mono (by have := hb0.size; simp <;> omega))); have a0 : w1.cell? ⟨w.heap.size, 0, none⟩ = some (.int .i64 lim) := cell_later hb1 (by go_simp); have a1 : w1.cell? ⟨w.heap.size, 1, none⟩ = some (.slice m1 m2 m3) := cell_later hb1 (by go_simp); have a2 : w1.cell? ⟨w.heap.size, 2, none⟩ = some (.slice ra n rc) := cell_later hb1 (by go_simp); have l1 : w.heap.size < w1.heap.size := World.block_lt_of_cell? _ _ a0)
    | (go_at_call 16; refine Calls.mono (KT.out _ ?hbb) ?_; (case hbb => (repeat (first | exact hw1 | (refine Below.alloc ?_ (by have := hw1.size; simp <;> omega) _)))); rintro e w2 ⟨rfl, hb2⟩; have hw2 : Below w.heap.size w w2 := (Below.trans (by repeat (first | exact hw1 | (refine Below.alloc ?_ (by have := hw1.size; simp <;> omega) _))) (hb2.mono (by have := hw1.size; simp <;> omega))); have b0 : w2.cell? ⟨w.heap.size, 0, none⟩ = some (.int .i64 lim) := cell_later hb2 (by go_simp); have b1 : w2.cell? ⟨w.heap.size, 1, none⟩ = some (.slice m1 m2 m3) := cell_later hb2 (by go_simp); have b2 : w2.cell? ⟨w.heap.size, 2, none⟩ = some (.slice ra n rc) := cell_later hb2 (by go_simp); have B0 : w2.cell? ⟨w1.heap.size, 0, none⟩ = some (.int .i64 0) := cell_later hb2 (by go_simp); have B1 : w2.cell? ⟨w1.heap.size, 1, none⟩ = some (.slice none 0 0) := cell_later hb2 (by go_simp); have B2 : w2.cell? ⟨w1.heap.size, 2, none⟩ = some (.slice none 0 0) := cell_later hb2 (by go_simp); have l2 : w1.heap.size < w2.heap.size := World.block_lt_of_cell? _ _ B0; have l2a : w.heap.size < w2.heap.size := World.block_lt_of_cell? _ _ b0)
    | (go_at_call 9; refine Calls.mono (KR.out _ ?hbb) ?_; (case hbb => (repeat (first | exact hw2 | (refine Below.alloc ?_ (by have := hw2.size; simp <;> omega) _)))); rintro e w3 ⟨rfl, hb3⟩; have hw3 : Below w.heap.size w w3 := (Below.trans (by repeat (first | exact hw2 | (refine Below.alloc ?_ (by have := hw2.size; simp <;> omega) _))) (hb3.mono (by have := hw2.size; simp <;> omega))); have c0 : w3.cell? ⟨w.heap.size, 0, none⟩ = some (.int .i64 lim) := cell_later hb3 (by go_simp); have c1 : w3.cell? ⟨w.heap.size, 1, none⟩ = some (.slice m1 m2 m3) := cell_later hb3 (by go_simp); have c2 : w3.cell? ⟨w.heap.size, 2, none⟩ = some (.slice ra n rc) := cell_later hb3 (by go_simp); have C0 : w3.cell? ⟨w1.heap.size, 0, none⟩ = some (.int .i64 0) := cell_later hb3 (by go_simp); have C1 : w3.cell? ⟨w1.heap.size, 1, none⟩ = some (.slice none 0 0) := cell_later hb3 (by go_simp); have C2 : w3.cell? ⟨w1.heap.size, 2, none⟩ = some (.slice none 0 0) := cell_later hb3 (by go_simp); have D0 : w3.cell? ⟨w2.heap.size, 0, none⟩ = some (.int .i64 0) := cell_later hb3 (by go_simp); have D1 : w3.cell? ⟨w2.heap.size, 1, none⟩ = some (.slice none 0 0) := cell_later hb3 (by go_simp); have D2 : w3.cell? ⟨w2.heap.size, 2, none⟩ = some (.slice none 0 0) := cell_later hb3 (by go_simp); have l3 : w2.heap.size < w3.heap.size := World.block_lt_of_cell? _ _ D0; have l3a : w1.heap.size < w3.heap.size := World.block_lt_of_cell? _ _ C0; have l3b : w.heap.size < w3.heap.size := World.block_lt_of_cell? _ _ c0)
    | (go_at_call 12; refine (KB.out _).mono ?_; rintro e w5 ⟨rfl, hb5⟩; have hw5 : Below w.heap.size w w5 := hw3.trans (hb5.mono hw3.size); have G0 : w5.cell? ⟨w1.heap.size, 0, none⟩ = some (.int .i64 0) := cell_later hb5 (by go_simp); have G1 : w5.cell? ⟨w1.heap.size, 1, none⟩ = some (.slice none 0 0) := cell_later hb5 (by go_simp); have G2 : w5.cell? ⟨w1.heap.size, 2, none⟩ = some (.slice none 0 0) := cell_later hb5 (by go_simp); have H0 : w5.cell? ⟨w2.heap.size, 0, none⟩ = some (.int .i64 0) := cell_later hb5 (by go_simp); have H1 : w5.cell? ⟨w2.heap.size, 1, none⟩ = some (.slice none 0 0) := cell_later hb5 (by go_simp); have H2 : w5.cell? ⟨w2.heap.size, 2, none⟩ = some (.slice none 0 0) := cell_later hb5 (by go_simp))
    | (go_at_call 13; refine (KS.out _).mono ?_; rintro e w7 ⟨rfl, hb7⟩; have hb67 : Below w6.heap.size w6 w7 := hb7; have hw7 : Below w.heap.size w w7 := hw6.trans (hb7.mono hw6.size))
    | (go_at_call 13; refine (KS.out _).mono ?_; rintro e w6 ⟨rfl, hb6⟩; have hw6 : Below w.heap.size w w6 := hw5.trans (hb6.mono hw5.size); have J0 : w6.cell? ⟨w2.heap.size, 0, none⟩ = some (.int .i64 0) := cell_later hb6 (by go_simp); have J1 : w6.cell? ⟨w2.heap.size, 1, none⟩ = some (.slice none 0 0) := cell_later hb6 (by go_simp); have J2 : w6.cell? ⟨w2.heap.size, 2, none⟩ = some (.slice none 0 0) := cell_later hb6 (by go_simp)))
  go_ret
  exact ⟨rfl, hw7⟩
set_option maxRecDepth 100000 in
set_option maxHeartbeats 16000000 in
theorem turns_none (b : Buf) (x : BX) (p : Plc) (w : World) (h : bufAt w b x) (hw : ∀ y ∈ entsB b, wfE y ∧ wfP (plOf y) ∧ y.key.size ≤ 140737488355328 ∧ y.row.length ≤ 2000000) (hs : (entsB b).length ≤ 4611686018427387904) (he : errB b = 0) (hh : hasB (entsB b) p = false) :
    Calls Try.prog 4 #[bufV b x, .string p.1, .int .i64 p.2.1, .int .i64 p.2.2] w fun r w' => r = .returned (.bool true) ∧ Below w.heap.size w w' := by
  have hw1 : ∀ y ∈ entsB b, wfE y ∧ wfP (plOf y) := fun y hy => ⟨(hw y hy).1, (hw y hy).2.1⟩
  have ok := okB_of he
  have KB : Hid (∀ w1, Calls Try.prog 12 #[] w1 fun e w' => e = .returned (.bool true) ∧ Below w1.heap.size w1 w') := fun w1 => begun_any w1
  have KR : Hid (∀ w1, Below w.heap.size w w1 → Calls Try.prog 9 #[bufV b x] w1 fun r w' => r = .returned (.int .i64 (errB b)) ∧ Below w1.heap.size w1 w') := fun w1 hb => rcheck_any b x w1 (bufAt_below h hb) (fun y hy => ⟨(hw y hy).1, (hw y hy).2.2⟩) hs
  have KM : Hid (∀ w1, Below w.heap.size w w1 → Calls Try.prog 15 #[bufV b x, .string p.1, .int .i64 p.2.1, .int .i64 p.2.2] w1 fun r w' => r = .returned (.tuple #[emptyV, .int .i64 9]) ∧ Below w1.heap.size w1 w') := fun w1 hb => meet_none b x p w1 (bufAt_below h hb) hw1 hs he hh
  have KT : Hid (∀ w1, Below w.heap.size w w1 → Calls Try.prog 16 #[bufV b x, .string p.1, .int .i64 p.2.1, .int .i64 p.2.2] w1 fun r w' => r = .returned (.tuple #[emptyV, .int .i64 9]) ∧ Below w1.heap.size w1 w') := fun w1 hb => take_none b x p w1 (bufAt_below h hb) hw1 hs he hh
  have KH : Hid (∀ w1, Below w.heap.size w w1 → Calls Try.prog 17 #[bufV b x, .string p.1, .int .i64 p.2.1, .int .i64 p.2.2] w1 fun r w' => r = .returned (.bool false) ∧ Below w1.heap.size w1 w') := fun w1 hb => by
    have := there_ok b x p w1 (bufAt_below h hb) ok
    rwa [hh] at this
  have KS : Hid (∀ w1, Calls Try.prog 13 #[.agg #[.int .i64 0, .slice none 0 0, .slice none 0 0], .agg #[.int .i64 0, .slice none 0 0, .slice none 0 0]] w1 fun e w' => e = .returned (.bool true) ∧ Below w1.heap.size w1 w') := fun w1 => empty_same w1
  rw [he] at KR
  clear h hw hw1 hs he hh ok
  unfold emptyV at KM KT
  obtain ⟨pk, pt, ps⟩ := p
  dsimp only at KM KT KH ⊢
  obtain ⟨ra, rc, ⟨⟨m1, m2, m3⟩, ml⟩, rs⟩ := x
  obtain ⟨lim, mem, runs⟩ := b
  rw [show bufV ⟨lim, mem, runs⟩ ⟨ra, rc, ((m1, m2, m3), ml), rs⟩ = .agg #[.int .i64 lim, .slice m1 m2 m3, .slice ra rs.length rc] from rfl] at KR KM KT KH ⊢
  obtain ⟨n, hn⟩ : ∃ n, rs.length = n := ⟨_, rfl⟩
  rw [hn] at KR KM KT KH ⊢
  clear hn
  have hb0 : Below w.heap.size w (w.alloc (.cells #[.int .i64 lim, .slice m1 m2 m3, .slice ra n rc] 25)) := (Below.refl _ _).alloc (Nat.le_refl _) _
  go_enter Try.func4, Try.ntmps4
  go_wp2_with (first
    | (go_at_call 15; refine Calls.mono (KM.out _ ?hbb) ?_; (case hbb => (repeat (first | exact hb0 | (refine Below.alloc ?_ (by have := hb0.size; simp <;> omega) _)))); rintro e w1 ⟨rfl, hb1⟩; have hw1 : Below w.heap.size w w1 := (Below.trans (by repeat (first | exact hb0 | (refine Below.alloc ?_ (by have := hb0.size; simp <;> omega) _))) (hb1.mono (by have := hb0.size; simp <;> omega))); have a0 : w1.cell? ⟨w.heap.size, 0, none⟩ = some (.int .i64 lim) := cell_later hb1 (by go_simp); have a1 : w1.cell? ⟨w.heap.size, 1, none⟩ = some (.slice m1 m2 m3) := cell_later hb1 (by go_simp); have a2 : w1.cell? ⟨w.heap.size, 2, none⟩ = some (.slice ra n rc) := cell_later hb1 (by go_simp); have l1 : w.heap.size < w1.heap.size := World.block_lt_of_cell? _ _ a0)
    | (go_at_call 16; refine Calls.mono (KT.out _ ?hbb) ?_; (case hbb => (repeat (first | exact hw1 | (refine Below.alloc ?_ (by have := hw1.size; simp <;> omega) _)))); rintro e w2 ⟨rfl, hb2⟩; have hw2 : Below w.heap.size w w2 := (Below.trans (by repeat (first | exact hw1 | (refine Below.alloc ?_ (by have := hw1.size; simp <;> omega) _))) (hb2.mono (by have := hw1.size; simp <;> omega))); have b0 : w2.cell? ⟨w.heap.size, 0, none⟩ = some (.int .i64 lim) := cell_later hb2 (by go_simp); have b1 : w2.cell? ⟨w.heap.size, 1, none⟩ = some (.slice m1 m2 m3) := cell_later hb2 (by go_simp); have b2 : w2.cell? ⟨w.heap.size, 2, none⟩ = some (.slice ra n rc) := cell_later hb2 (by go_simp); have B0 : w2.cell? ⟨w1.heap.size, 0, none⟩ = some (.int .i64 0) := cell_later hb2 (by go_simp); have B1 : w2.cell? ⟨w1.heap.size, 1, none⟩ = some (.slice none 0 0) := cell_later hb2 (by go_simp); have B2 : w2.cell? ⟨w1.heap.size, 2, none⟩ = some (.slice none 0 0) := cell_later hb2 (by go_simp); have l2 : w1.heap.size < w2.heap.size := World.block_lt_of_cell? _ _ B0; have l2a : w.heap.size < w2.heap.size := World.block_lt_of_cell? _ _ b0)
    | (go_at_call 9; refine Calls.mono (KR.out _ ?hbb) ?_; (case hbb => (repeat (first | exact hw2 | (refine Below.alloc ?_ (by have := hw2.size; simp <;> omega) _)))); rintro e w3 ⟨rfl, hb3⟩; have hw3 : Below w.heap.size w w3 := (Below.trans (by repeat (first | exact hw2 | (refine Below.alloc ?_ (by have := hw2.size; simp <;> omega) _))) (hb3.mono (by have := hw2.size; simp <;> omega))); have c0 : w3.cell? ⟨w.heap.size, 0, none⟩ = some (.int .i64 lim) := cell_later hb3 (by go_simp); have c1 : w3.cell? ⟨w.heap.size, 1, none⟩ = some (.slice m1 m2 m3) := cell_later hb3 (by go_simp); have c2 : w3.cell? ⟨w.heap.size, 2, none⟩ = some (.slice ra n rc) := cell_later hb3 (by go_simp); have C0 : w3.cell? ⟨w1.heap.size, 0, none⟩ = some (.int .i64 0) := cell_later hb3 (by go_simp); have C1 : w3.cell? ⟨w1.heap.size, 1, none⟩ = some (.slice none 0 0) := cell_later hb3 (by go_simp); have C2 : w3.cell? ⟨w1.heap.size, 2, none⟩ = some (.slice none 0 0) := cell_later hb3 (by go_simp); have D0 : w3.cell? ⟨w2.heap.size, 0, none⟩ = some (.int .i64 0) := cell_later hb3 (by go_simp); have D1 : w3.cell? ⟨w2.heap.size, 1, none⟩ = some (.slice none 0 0) := cell_later hb3 (by go_simp); have D2 : w3.cell? ⟨w2.heap.size, 2, none⟩ = some (.slice none 0 0) := cell_later hb3 (by go_simp); have l3 : w2.heap.size < w3.heap.size := World.block_lt_of_cell? _ _ D0; have l3a : w1.heap.size < w3.heap.size := World.block_lt_of_cell? _ _ C0; have l3b : w.heap.size < w3.heap.size := World.block_lt_of_cell? _ _ c0)
    | (go_at_call 17; refine Calls.mono (KH.out _ ?hbb) ?_; (case hbb => (repeat (first | exact hw3 | (refine Below.alloc ?_ (by have := hw3.size; simp <;> omega) _)))); rintro e w4 ⟨rfl, hb4⟩; have hw4 : Below w.heap.size w w4 := (Below.trans (by repeat (first | exact hw3 | (refine Below.alloc ?_ (by have := hw3.size; simp <;> omega) _))) (hb4.mono (by have := hw3.size; simp <;> omega))); have E0 : w4.cell? ⟨w1.heap.size, 0, none⟩ = some (.int .i64 0) := cell_later hb4 (by go_simp); have E1 : w4.cell? ⟨w1.heap.size, 1, none⟩ = some (.slice none 0 0) := cell_later hb4 (by go_simp); have E2 : w4.cell? ⟨w1.heap.size, 2, none⟩ = some (.slice none 0 0) := cell_later hb4 (by go_simp); have F0 : w4.cell? ⟨w2.heap.size, 0, none⟩ = some (.int .i64 0) := cell_later hb4 (by go_simp); have F1 : w4.cell? ⟨w2.heap.size, 1, none⟩ = some (.slice none 0 0) := cell_later hb4 (by go_simp); have F2 : w4.cell? ⟨w2.heap.size, 2, none⟩ = some (.slice none 0 0) := cell_later hb4 (by go_simp))
    | (go_at_call 12; refine (KB.out _).mono ?_; rintro e w5 ⟨rfl, hb5⟩; have hw5 : Below w.heap.size w w5 := hw4.trans (hb5.mono hw4.size); have G0 : w5.cell? ⟨w1.heap.size, 0, none⟩ = some (.int .i64 0) := cell_later hb5 (by go_simp); have G1 : w5.cell? ⟨w1.heap.size, 1, none⟩ = some (.slice none 0 0) := cell_later hb5 (by go_simp); have G2 : w5.cell? ⟨w1.heap.size, 2, none⟩ = some (.slice none 0 0) := cell_later hb5 (by go_simp); have H0 : w5.cell? ⟨w2.heap.size, 0, none⟩ = some (.int .i64 0) := cell_later hb5 (by go_simp); have H1 : w5.cell? ⟨w2.heap.size, 1, none⟩ = some (.slice none 0 0) := cell_later hb5 (by go_simp); have H2 : w5.cell? ⟨w2.heap.size, 2, none⟩ = some (.slice none 0 0) := cell_later hb5 (by go_simp))
    | (go_at_call 13; refine (KS.out _).mono ?_; rintro e w7 ⟨rfl, hb7⟩; have hb67 : Below w6.heap.size w6 w7 := hb7; have hw7 : Below w.heap.size w w7 := hw6.trans (hb7.mono hw6.size))
    | (go_at_call 13; refine (KS.out _).mono ?_; rintro e w6 ⟨rfl, hb6⟩; have hw6 : Below w.heap.size w w6 := hw5.trans (hb6.mono hw5.size); have J0 : w6.cell? ⟨w2.heap.size, 0, none⟩ = some (.int .i64 0) := cell_later hb6 (by go_simp); have J1 : w6.cell? ⟨w2.heap.size, 1, none⟩ = some (.slice none 0 0) := cell_later hb6 (by go_simp); have J2 : w6.cell? ⟨w2.heap.size, 2, none⟩ = some (.slice none 0 0) := cell_later hb6 (by go_simp)))
  go_ret
  exact ⟨rfl, hw7⟩
set_option maxRecDepth 100000 in
set_option maxHeartbeats 16000000 in
theorem turns_ok (b : Buf) (x : BX) (p : Plc) (w : World) (h : bufAt w b x) (hw : ∀ y ∈ entsB b, wfE y ∧ wfP (plOf y) ∧ y.key.size ≤ 140737488355328 ∧ y.row.length ≤ 2000000) (hs : (entsB b).length ≤ 4611686018427387904) (he : errB b = 0) (hh : hasB (entsB b) p = true) :
    Calls Try.prog 4 #[bufV b x, .string p.1, .int .i64 p.2.1, .int .i64 p.2.2] w fun r w' => r = .returned (.bool true) ∧ Below w.heap.size w w' := by
  have hw1 : ∀ y ∈ entsB b, wfE y ∧ wfP (plOf y) := fun y hy => ⟨(hw y hy).1, (hw y hy).2.1⟩
  have ok := okB_of he
  have KB : Hid (∀ w1, Calls Try.prog 12 #[] w1 fun e w' => e = .returned (.bool true) ∧ Below w1.heap.size w1 w') := fun w1 => begun_any w1
  have KR : Hid (∀ w1, Below w.heap.size w w1 → Calls Try.prog 9 #[bufV b x] w1 fun r w' => r = .returned (.int .i64 (errB b)) ∧ Below w1.heap.size w1 w') := fun w1 hb => rcheck_any b x w1 (bufAt_below h hb) (fun y hy => ⟨(hw y hy).1, (hw y hy).2.2⟩) hs
  have KM : Hid (∀ w1, Below w.heap.size w w1 → Calls Try.prog 15 #[bufV b x, .string p.1, .int .i64 p.2.1, .int .i64 p.2.2] w1 fun r w' => (∃ x', r = .returned (.tuple #[bufV (meetB p b) x', .int .i64 0]) ∧ OB w' w1.heap.size x' (meetB p b)) ∧ Below w1.heap.size w1 w') := fun w1 hb => meet_ok b x p w1 (bufAt_below h hb) hw1 hs he hh
  have KT : Hid (∀ w1, Below w.heap.size w w1 → Calls Try.prog 16 #[bufV b x, .string p.1, .int .i64 p.2.1, .int .i64 p.2.2] w1 fun r w' => (∃ x', r = .returned (.tuple #[bufV (keptB (notAt p) b) x', .int .i64 0]) ∧ OB w' w1.heap.size x' (keptB (notAt p) b)) ∧ Below w1.heap.size w1 w') := fun w1 hb => take_ok b x p w1 (bufAt_below h hb) hw1 hs he hh
  have KH : Hid (∀ w1, Below w.heap.size w w1 → Calls Try.prog 17 #[bufV b x, .string p.1, .int .i64 p.2.1, .int .i64 p.2.2] w1 fun r w' => r = .returned (.bool true) ∧ Below w1.heap.size w1 w') := fun w1 hb => by
    have := there_ok b x p w1 (bufAt_below h hb) ok
    rwa [hh] at this
  have RM : Hid (∀ w1, Below w.heap.size w w1 → Calls Try.prog 18 #[bufV b x, .string p.1, .int .i64 p.2.1, .int .i64 p.2.2] w1 fun r w' => (∃ x', r = .returned (bufV (meetB p b) x') ∧ OB w' w1.heap.size x' (meetB p b)) ∧ Below w1.heap.size w1 w') := fun w1 hb => meetIn_ok b x p w1 (bufAt_below h hb) ok
  have RT : Hid (∀ w1, Below w.heap.size w w1 → Calls Try.prog 19 #[bufV b x, .string p.1, .int .i64 p.2.1, .int .i64 p.2.2] w1 fun r w' => (∃ x', r = .returned (bufV (keptB (notAt p) b) x') ∧ OB w' w1.heap.size x' (keptB (notAt p) b)) ∧ Below w1.heap.size w1 w') := fun w1 hb => takeIn_ok b x p w1 (bufAt_below h hb) ok
  have HMR : Hid ((∀ l ∈ partsB (meetB p b), l.length ≤ 9223372036854775807) ∧ ∀ y ∈ entsB (meetB p b), y.row.length ≤ 9223372036854775807) := meet_rows ok
  have HTR : Hid ((∀ l ∈ partsB (keptB (notAt p) b), l.length ≤ 9223372036854775807) ∧ ∀ y ∈ entsB (keptB (notAt p) b), y.row.length ≤ 9223372036854775807) := kept_rows ok
  rw [he] at KR
  clear h hw hw1 hs he hh ok
  obtain ⟨M, hM⟩ : ∃ z, meetB p b = z := ⟨_, rfl⟩
  obtain ⟨T, hT⟩ : ∃ z, keptB (notAt p) b = z := ⟨_, rfl⟩
  rw [hM] at KM RM HMR
  rw [hT] at KT RT HTR
  clear hM hT
  obtain ⟨pk, pt, ps⟩ := p
  dsimp only at KM KT KH RM RT ⊢
  obtain ⟨ra, rc, ⟨⟨m1, m2, m3⟩, ml⟩, rs⟩ := x
  obtain ⟨lim, mem, runs⟩ := b
  rw [show bufV ⟨lim, mem, runs⟩ ⟨ra, rc, ((m1, m2, m3), ml), rs⟩ = .agg #[.int .i64 lim, .slice m1 m2 m3, .slice ra rs.length rc] from rfl] at KR KM KT KH RM RT ⊢
  obtain ⟨n, hn⟩ : ∃ n, rs.length = n := ⟨_, rfl⟩
  rw [hn] at KR KM KT KH RM RT ⊢
  clear hn
  have hb0 : Below w.heap.size w (w.alloc (.cells #[.int .i64 lim, .slice m1 m2 m3, .slice ra n rc] 25)) := (Below.refl _ _).alloc (Nat.le_refl _) _
  go_enter Try.func4, Try.ntmps4
  go_wp2_with (first
    | (go_at_call 15; refine Calls.mono (KM.out _ ?hbb) ?_; (case hbb => (repeat (first | exact hb0 | (refine Below.alloc ?_ (by have := hb0.size; simp <;> omega) _)))); rintro e w1 ⟨⟨⟨da, dc, ⟨⟨e1, e2, e3⟩, dl⟩, ds⟩, rfl, hod⟩, hb1⟩; obtain ⟨dn, hdn⟩ : ∃ z, ds.length = z := ⟨_, rfl⟩; have HDV : Hid (bufV M ⟨da, dc, ((e1, e2, e3), dl), ds⟩ = .agg #[.int .i64 M.lim, .slice e1 e2 e3, .slice da dn dc]) := (by show _ = _; rw [← hdn]; rfl); rw [HDV.out]; have HOD : Hid (bufAt w1 M ⟨da, dc, ((e1, e2, e3), dl), ds⟩) := hod.at; clear hod hdn; have hw1 : Below w.heap.size w w1 := (Below.trans (by repeat (first | exact hb0 | (refine Below.alloc ?_ (by have := hb0.size; simp <;> omega) _))) (hb1.mono (by have := hb0.size; simp <;> omega))); have a0 : w1.cell? ⟨w.heap.size, 0, none⟩ = some (.int .i64 lim) := cell_later hb1 (by go_simp); have a1 : w1.cell? ⟨w.heap.size, 1, none⟩ = some (.slice m1 m2 m3) := cell_later hb1 (by go_simp); have a2 : w1.cell? ⟨w.heap.size, 2, none⟩ = some (.slice ra n rc) := cell_later hb1 (by go_simp); have l1 : w.heap.size < w1.heap.size := World.block_lt_of_cell? _ _ a0)
    | (go_at_call 16; refine Calls.mono (KT.out _ ?hbb) ?_; (case hbb => (repeat (first | exact hw1 | (refine Below.alloc ?_ (by have := hw1.size; simp <;> omega) _)))); rintro e w2 ⟨⟨⟨pa, pc, ⟨⟨p1, p2, p3⟩, pl⟩, pq⟩, rfl, hop⟩, hb2⟩; obtain ⟨pn, hpn⟩ : ∃ z, pq.length = z := ⟨_, rfl⟩; have HPV : Hid (bufV T ⟨pa, pc, ((p1, p2, p3), pl), pq⟩ = .agg #[.int .i64 T.lim, .slice p1 p2 p3, .slice pa pn pc]) := (by show _ = _; rw [← hpn]; rfl); rw [HPV.out]; have HOP : Hid (bufAt w2 T ⟨pa, pc, ((p1, p2, p3), pl), pq⟩) := hop.at; clear hop hpn; have hw2 : Below w.heap.size w w2 := (Below.trans (by repeat (first | exact hw1 | (refine Below.alloc ?_ (by have := hw1.size; simp <;> omega) _))) (hb2.mono (by have := hw1.size; simp <;> omega))); have b0 : w2.cell? ⟨w.heap.size, 0, none⟩ = some (.int .i64 lim) := cell_later hb2 (by go_simp); have b1 : w2.cell? ⟨w.heap.size, 1, none⟩ = some (.slice m1 m2 m3) := cell_later hb2 (by go_simp); have b2 : w2.cell? ⟨w.heap.size, 2, none⟩ = some (.slice ra n rc) := cell_later hb2 (by go_simp); have B0 : w2.cell? ⟨w1.heap.size, 0, none⟩ = some (.int .i64 M.lim) := cell_later hb2 (by go_simp); have B1 : w2.cell? ⟨w1.heap.size, 1, none⟩ = some (.slice e1 e2 e3) := cell_later hb2 (by go_simp); have B2 : w2.cell? ⟨w1.heap.size, 2, none⟩ = some (.slice da dn dc) := cell_later hb2 (by go_simp); have l2 : w1.heap.size < w2.heap.size := World.block_lt_of_cell? _ _ B0; have l2a : w.heap.size < w2.heap.size := World.block_lt_of_cell? _ _ b0)
    | (go_at_call 9; refine Calls.mono (KR.out _ ?hbb) ?_; (case hbb => (repeat (first | exact hw2 | (refine Below.alloc ?_ (by have := hw2.size; simp <;> omega) _)))); rintro e w3 ⟨rfl, hb3⟩; have hw3 : Below w.heap.size w w3 := (Below.trans (by repeat (first | exact hw2 | (refine Below.alloc ?_ (by have := hw2.size; simp <;> omega) _))) (hb3.mono (by have := hw2.size; simp <;> omega))); have c0 : w3.cell? ⟨w.heap.size, 0, none⟩ = some (.int .i64 lim) := cell_later hb3 (by go_simp); have c1 : w3.cell? ⟨w.heap.size, 1, none⟩ = some (.slice m1 m2 m3) := cell_later hb3 (by go_simp); have c2 : w3.cell? ⟨w.heap.size, 2, none⟩ = some (.slice ra n rc) := cell_later hb3 (by go_simp); have C0 : w3.cell? ⟨w1.heap.size, 0, none⟩ = some (.int .i64 M.lim) := cell_later hb3 (by go_simp); have C1 : w3.cell? ⟨w1.heap.size, 1, none⟩ = some (.slice e1 e2 e3) := cell_later hb3 (by go_simp); have C2 : w3.cell? ⟨w1.heap.size, 2, none⟩ = some (.slice da dn dc) := cell_later hb3 (by go_simp); have D0 : w3.cell? ⟨w2.heap.size, 0, none⟩ = some (.int .i64 T.lim) := cell_later hb3 (by go_simp); have D1 : w3.cell? ⟨w2.heap.size, 1, none⟩ = some (.slice p1 p2 p3) := cell_later hb3 (by go_simp); have D2 : w3.cell? ⟨w2.heap.size, 2, none⟩ = some (.slice pa pn pc) := cell_later hb3 (by go_simp); have l3 : w2.heap.size < w3.heap.size := World.block_lt_of_cell? _ _ D0; have l3a : w1.heap.size < w3.heap.size := World.block_lt_of_cell? _ _ C0; have l3b : w.heap.size < w3.heap.size := World.block_lt_of_cell? _ _ c0)
    | (go_at_call 17; refine Calls.mono (KH.out _ ?hbb) ?_; (case hbb => (repeat (first | exact hw3 | (refine Below.alloc ?_ (by have := hw3.size; simp <;> omega) _)))); rintro e w4 ⟨rfl, hb4⟩; have hw4 : Below w.heap.size w w4 := (Below.trans (by repeat (first | exact hw3 | (refine Below.alloc ?_ (by have := hw3.size; simp <;> omega) _))) (hb4.mono (by have := hw3.size; simp <;> omega))); have f0 : w4.cell? ⟨w.heap.size, 0, none⟩ = some (.int .i64 lim) := cell_later hb4 (by go_simp); have f1 : w4.cell? ⟨w.heap.size, 1, none⟩ = some (.slice m1 m2 m3) := cell_later hb4 (by go_simp); have f2 : w4.cell? ⟨w.heap.size, 2, none⟩ = some (.slice ra n rc) := cell_later hb4 (by go_simp); have E0 : w4.cell? ⟨w1.heap.size, 0, none⟩ = some (.int .i64 M.lim) := cell_later hb4 (by go_simp); have E1 : w4.cell? ⟨w1.heap.size, 1, none⟩ = some (.slice e1 e2 e3) := cell_later hb4 (by go_simp); have E2 : w4.cell? ⟨w1.heap.size, 2, none⟩ = some (.slice da dn dc) := cell_later hb4 (by go_simp); have F0 : w4.cell? ⟨w2.heap.size, 0, none⟩ = some (.int .i64 T.lim) := cell_later hb4 (by go_simp); have F1 : w4.cell? ⟨w2.heap.size, 1, none⟩ = some (.slice p1 p2 p3) := cell_later hb4 (by go_simp); have F2 : w4.cell? ⟨w2.heap.size, 2, none⟩ = some (.slice pa pn pc) := cell_later hb4 (by go_simp)))
  have hb2a : Below w2.heap.size w2 (w2.alloc (.cells #[.int .i64 T.lim, .slice p1 p2 p3, .slice pa pn pc] 25)) := (Below.refl _ _).alloc (Nat.le_refl _) _
  have B23 : Below w2.heap.size w2 w3 := hb2a.trans (hb3.mono hb2a.size)
  have B24 : Below w2.heap.size w2 w4 := B23.trans (hb4.mono B23.size)
  have hb1a : Below w1.heap.size w1 (w1.alloc (.cells #[.int .i64 M.lim, .slice e1 e2 e3, .slice da dn dc] 25)) := (Below.refl _ _).alloc (Nat.le_refl _) _
  have B12 : Below w1.heap.size w1 w2 := hb1a.trans (hb2.mono hb1a.size)
  have B14 : Below w1.heap.size w1 w4 := B12.trans (B24.mono B12.size)
  have HB : Hid (Below w2.heap.size w2 w4 ∧ Below w1.heap.size w1 w4 ∧ Below w.heap.size w w4) := ⟨B24, B14, hw4⟩
  have HCL : Hid (w.heap.size < w1.heap.size ∧ w1.heap.size < w2.heap.size) := ⟨l1, l2⟩
  clear hb1 hb2 hb3 hb4 hb1a hb2a B23 B24 B12 B14 a0 a1 a2 b0 b1 b2 B0 B1 B2 c0 c1 c2 C0 C1 C2 D0 D1 D2 hw1 hw2 hw3 hw4 hb0 l1 l2 l2a l3 l3a l3b
  go_region_held3 (fun w' => w'.cell? ⟨w.heap.size, 0, none⟩ = some (.int .i64 lim) ∧ w'.cell? ⟨w.heap.size, 1, none⟩ = some (.slice m1 m2 m3) ∧ w'.cell? ⟨w.heap.size, 2, none⟩ = some (.slice ra n rc) ∧ w'.cell? ⟨w1.heap.size, 0, none⟩ = some (.int .i64 M.lim) ∧ w'.cell? ⟨w1.heap.size, 1, none⟩ = some (.slice e1 e2 e3) ∧ w'.cell? ⟨w1.heap.size, 2, none⟩ = some (.slice da dn dc) ∧ w'.cell? ⟨w2.heap.size, 0, none⟩ = some (.int .i64 T.lim) ∧ w'.cell? ⟨w2.heap.size, 1, none⟩ = some (.slice p1 p2 p3) ∧ w'.cell? ⟨w2.heap.size, 2, none⟩ = some (.slice pa pn pc)) (first | go_keep | exact ⟨cell_later hQ1 f0, cell_later hQ1 f1, cell_later hQ1 f2, cell_later hQ1 E0, cell_later hQ1 E1, cell_later hQ1 E2, cell_later hQ1 F0, cell_later hQ1 F1, cell_later hQ1 F2⟩ | exact ⟨cell_later hQ2 f0, cell_later hQ2 f1, cell_later hQ2 f2, cell_later hQ2 E0, cell_later hQ2 E1, cell_later hQ2 E2, cell_later hQ2 F0, cell_later hQ2 F1, cell_later hQ2 F2⟩ | exact ⟨cell_later hQ3 f0, cell_later hQ3 f1, cell_later hQ3 f2, cell_later hQ3 E0, cell_later hQ3 E1, cell_later hQ3 E2, cell_later hQ3 F0, cell_later hQ3 F1, cell_later hQ3 F2⟩ | exact ⟨cell_later hQ4 f0, cell_later hQ4 f1, cell_later hQ4 f2, cell_later hQ4 E0, cell_later hQ4 E1, cell_later hQ4 E2, cell_later hQ4 F0, cell_later hQ4 F1, cell_later hQ4 F2⟩ | exact ⟨cell_later hQ5 f0, cell_later hQ5 f1, cell_later hQ5 f2, cell_later hQ5 E0, cell_later hQ5 E1, cell_later hQ5 E2, cell_later hQ5 F0, cell_later hQ5 F1, cell_later hQ5 F2⟩)
    (first
      | (go_at_call 12; refine (KB.out w4.drew).mono ?_; rintro e x1 ⟨rfl, hq1⟩; have hQ1 : Below w4.heap.size w4 x1 := (Below.refl _ _).drew.trans hq1)
      | (go_at_call 18; refine (RM.out x1 (HB.out.2.2.trans (hQ1.mono HB.out.2.2.size))).mono ?_; rintro e x2 ⟨⟨⟨ga, gc, ⟨⟨h1, h2, h3⟩, gl⟩, gs⟩, rfl, hog⟩, hq2⟩; obtain ⟨gn, hgn⟩ : ∃ z, gs.length = z := ⟨_, rfl⟩; have HGV : Hid (bufV M ⟨ga, gc, ((h1, h2, h3), gl), gs⟩ = .agg #[.int .i64 M.lim, .slice h1 h2 h3, .slice ga gn gc]) := (by show _ = _; rw [← hgn]; rfl); rw [HGV.out]; have hQ2 : Below w4.heap.size w4 x2 := hQ1.trans (hq2.mono hQ1.size); have KS1 : Hid (Calls Try.prog 13 #[.agg #[.int .i64 M.lim, .slice e1 e2 e3, .slice da dn dc], .agg #[.int .i64 M.lim, .slice h1 h2 h3, .slice ga gn gc]] x2 fun e w' => e = .returned (.bool true) ∧ Below x2.heap.size x2 w') := (by have B := HB.out.2.1.trans (hQ2.mono HB.out.2.1.size); rw [← HDV.out, ← HGV.out]; exact sameB_eq M _ _ x2 (bufAt_below HOD.out B) hog.at HMR.out.1 HMR.out.2); clear hgn hog)
      | (go_at_call 13; refine KS2.out.mono ?_; rintro e x5 ⟨rfl, hq5⟩; have hQ5 : Below w4.heap.size w4 x5 := hQ4.trans (hq5.mono hQ4.size))
      | (go_at_call 13; refine KS1.out.mono ?_; rintro e x3 ⟨rfl, hq3⟩; have hQ3 : Below w4.heap.size w4 x3 := hQ2.trans (hq3.mono hQ2.size))
      | (go_at_call 19; refine (RT.out x3 (HB.out.2.2.trans (hQ3.mono HB.out.2.2.size))).mono ?_; rintro e x4 ⟨⟨⟨ka, kc, ⟨⟨i1, i2, i3⟩, kl⟩, kz⟩, rfl, hok⟩, hq4⟩; obtain ⟨kn, hkn⟩ : ∃ z, kz.length = z := ⟨_, rfl⟩; have HKV : Hid (bufV T ⟨ka, kc, ((i1, i2, i3), kl), kz⟩ = .agg #[.int .i64 T.lim, .slice i1 i2 i3, .slice ka kn kc]) := (by show _ = _; rw [← hkn]; rfl); rw [HKV.out]; have hQ4 : Below w4.heap.size w4 x4 := hQ3.trans (hq4.mono hQ3.size); have KS2 : Hid (Calls Try.prog 13 #[.agg #[.int .i64 T.lim, .slice p1 p2 p3, .slice pa pn pc], .agg #[.int .i64 T.lim, .slice i1 i2 i3, .slice ka kn kc]] x4 fun e w' => e = .returned (.bool true) ∧ Below x4.heap.size x4 w') := (by have B := HB.out.1.trans (hQ4.mono HB.out.1.size); rw [← HPV.out, ← HKV.out]; exact sameB_eq T _ _ x4 (bufAt_below HOP.out B) hok.at HTR.out.1 HTR.out.2); clear hkn hok))
  all_goals
    go_wp2
    go_ret
    exact ⟨rfl, HB.out.2.2.trans (hQ5.mono HB.out.2.2.size)⟩
theorem turns_walk (b : Buf) (x : BX) (p : Plc) (w : World) (h : bufAt w b x) (hw : ∀ y ∈ entsB b, wfE y ∧ wfP (plOf y) ∧ y.key.size ≤ 140737488355328 ∧ y.row.length ≤ 2000000) (hs : (entsB b).length ≤ 4611686018427387904) :
    Calls Try.prog 4 #[bufV b x, .string p.1, .int .i64 p.2.1, .int .i64 p.2.2] w fun r w' => r = .returned (.bool true) ∧ Below w.heap.size w w' := by
  by_cases he : errB b = 0
  · cases hh : hasB (entsB b) p with
    | true => exact turns_ok b x p w h hw hs he hh
    | false => exact turns_none b x p w h hw hs he hh
  · exact turns_bad b x p w h hw hs he
end Go.Proofs.Ytnfknkihiapgiaa.bf
