/- Put, where it errs. -/
import Derived.Test.YtnfknkihiapgiaaBufPack
import Derived.Deep.RegionLaw
namespace Go.Proofs.Ytnfknkihiapgiaa.bf
open Go.ChangeShapes Go.WideShapes Go.ChangeAt Go.RowKit
open vl
set_option linter.unusedVariables false
set_option linter.unusedSimpArgs false
attribute [local go_sem] Oper.semAt_some
set_option maxHeartbeats 2000000 in
theorem put_bad (b : Buf) (x : BX) (e : EM) (w : World) (h : bufAt w b x) (hw : ∀ y ∈ entsB b, wfE y ∧ wfP (plOf y)) (hs : (entsB b).length ≤ 4611686018427387904) (he : errB b ≠ 0) :
    Calls Try.prog 8 #[bufV b x, e.val] w fun r w' => r = .returned (.tuple #[emptyV, .int .i64 (errB b)]) ∧ Below w.heap.size w w' := by
  have KC : Hid (∀ w1, Below w.heap.size w w1 → Calls Try.prog 14 #[bufV b x] w1 fun e w' => e = .returned (.int .i64 (errB b)) ∧ Below w1.heap.size w1 w') := fun w1 hb => check_any b x w1 (bufAt_below h hb) hw hs
  obtain ⟨E, hE⟩ : ∃ z, errB b = z := ⟨_, rfl⟩
  rw [hE] at KC he ⊢
  clear hE h hw hs
  obtain ⟨ra, rc, ⟨⟨m1, m2, m3⟩, ml⟩, rs⟩ := x
  obtain ⟨lim, mem, runs⟩ := b
  obtain ⟨ek, et, es, ⟨r1, r2, r3⟩, em⟩ := e
  unfold bufV hdV at KC ⊢
  unfold emptyV EM.val hdV
  dsimp only at KC ⊢
  obtain ⟨n, hn⟩ : ∃ n, rs.length = n := ⟨_, rfl⟩
  rw [hn] at KC ⊢
  clear hn
  have hbe : (E != 0) = true := by simpa using he
  have hb0 : Below w.heap.size w (((w.alloc (.cells #[.int .i64 lim, .slice m1 m2 m3, .slice ra n rc] 25)).alloc (.cells #[.string ek, .int .i64 et, .int .i64 es, .slice r1 r2 r3, .bool em] 28)).alloc (.cells #[.int .i64 0, .slice none 0 0, .slice none 0 0] 25)) := by
    repeat (first | exact Below.refl _ _ | (refine Below.alloc ?_ (by simp <;> omega) _))
  have NBV := nb_alloc ((w.alloc (.cells #[.int .i64 lim, .slice m1 m2 m3, .slice ra n rc] 25)).alloc (.cells #[.string ek, .int .i64 et, .int .i64 es, .slice r1 r2 r3, .bool em] 28))
  rw [World.size_alloc, World.size_alloc] at NBV
  have HNB : Hid (nbAt (((w.alloc (.cells #[.int .i64 lim, .slice m1 m2 m3, .slice ra n rc] 25)).alloc (.cells #[.string ek, .int .i64 et, .int .i64 es, .slice r1 r2 r3, .bool em] 28)).alloc (.cells #[.int .i64 0, .slice none 0 0, .slice none 0 0] 25)) (w.heap.size + 1 + 1)) := NBV
  clear NBV
  go_enter Try.func8, Try.ntmps8
  go_wp2_with (go_at_call 14; refine (KC.out _ hb0).mono ?_; rintro e w2 ⟨rfl, hb2⟩; obtain ⟨n0, n1, n2, o0, o1, o2, n3⟩ := nb_below hb2 HNB.out)
  have hbw : Below w.heap.size w w2 := hb0.trans (hb2.mono hb0.size)
  exact bodyPost_ret (v := .tuple #[.agg #[.int .i64 0, .slice none 0 0, .slice none 0 0], .int .i64 E]) (by simp [results, Try.results8, go_sem, n0, n1, n2]) rfl ⟨rfl, ((hbw.setCell (by dsimp only; omega) _).setCell (by dsimp only; omega) _).setCell (by dsimp only; omega) _⟩
set_option maxHeartbeats 2000000 in
theorem put_form (b : Buf) (x : BX) (e : EM) (y : Ent) (w : World) (h : bufAt w b x) (hw : ∀ y ∈ entsB b, wfE y ∧ wfP (plOf y)) (hs : (entsB b).length ≤ 4611686018427387904) (he : errB b = 0) (hr : ER w e y) (hy : wfE y) (hf : fineB y = false) :
    Calls Try.prog 8 #[bufV b x, e.val] w fun r w' => r = .returned (.tuple #[emptyV, .int .i64 1]) ∧ Below w.heap.size w w' := by
  have KC : Hid (∀ w1, Below w.heap.size w w1 → Calls Try.prog 14 #[bufV b x] w1 fun e w' => e = .returned (.int .i64 0) ∧ Below w1.heap.size w1 w') := fun w1 hb => by
    have := check_any b x w1 (bufAt_below h hb) hw hs
    rwa [he] at this
  have KE : Hid (∀ w1, Below w.heap.size w w1 → Calls Try.prog 30 #[e.val] w1 fun r w' => r = .returned (.bool false) ∧ Below w1.heap.size w1 w') := fun w1 hb => by
    have := entryRight_any e y w1 (hr.below hb) hy
    rwa [hf] at this
  clear h hw hs he hr hy hf
  obtain ⟨ra, rc, ⟨⟨m1, m2, m3⟩, ml⟩, rs⟩ := x
  obtain ⟨lim, mem, runs⟩ := b
  obtain ⟨ek, et, es, ⟨r1, r2, r3⟩, em⟩ := e
  unfold bufV hdV at KC ⊢
  unfold EM.val hdV at KE ⊢
  unfold emptyV
  dsimp only at KC KE ⊢
  obtain ⟨n, hn⟩ : ∃ n, rs.length = n := ⟨_, rfl⟩
  rw [hn] at KC ⊢
  clear hn
  have hb0 : Below w.heap.size w (((w.alloc (.cells #[.int .i64 lim, .slice m1 m2 m3, .slice ra n rc] 25)).alloc (.cells #[.string ek, .int .i64 et, .int .i64 es, .slice r1 r2 r3, .bool em] 28)).alloc (.cells #[.int .i64 0, .slice none 0 0, .slice none 0 0] 25)) := by
    repeat (first | exact Below.refl _ _ | (refine Below.alloc ?_ (by simp <;> omega) _))
  have NBV := nb_alloc ((w.alloc (.cells #[.int .i64 lim, .slice m1 m2 m3, .slice ra n rc] 25)).alloc (.cells #[.string ek, .int .i64 et, .int .i64 es, .slice r1 r2 r3, .bool em] 28))
  rw [World.size_alloc, World.size_alloc] at NBV
  have HNB : Hid (nbAt (((w.alloc (.cells #[.int .i64 lim, .slice m1 m2 m3, .slice ra n rc] 25)).alloc (.cells #[.string ek, .int .i64 et, .int .i64 es, .slice r1 r2 r3, .bool em] 28)).alloc (.cells #[.int .i64 0, .slice none 0 0, .slice none 0 0] 25)) (w.heap.size + 1 + 1)) := NBV
  clear NBV
  go_enter Try.func8, Try.ntmps8
  go_wp2_with (first
    | (go_at_call 14; refine (KC.out _ hb0).mono ?_; rintro e w2 ⟨rfl, hb2⟩; have hbw : Below w.heap.size w w2 := hb0.trans (hb2.mono hb0.size); have nb2 := nb_below hb2 HNB.out; have k0 : w2.cell? ⟨w.heap.size, 0, none⟩ = some (.int .i64 lim) := cell_later hb2 (by go_simp); have k1 : w2.cell? ⟨w.heap.size, 1, none⟩ = some (.slice m1 m2 m3) := cell_later hb2 (by go_simp); have k2 : w2.cell? ⟨w.heap.size, 2, none⟩ = some (.slice ra n rc) := cell_later hb2 (by go_simp); have d0 : w2.cell? ⟨w.heap.size + 1, 0, none⟩ = some (.string ek) := cell_later hb2 (by go_simp); have d1 : w2.cell? ⟨w.heap.size + 1, 1, none⟩ = some (.int .i64 et) := cell_later hb2 (by go_simp); have d2 : w2.cell? ⟨w.heap.size + 1, 2, none⟩ = some (.int .i64 es) := cell_later hb2 (by go_simp); have d3 : w2.cell? ⟨w.heap.size + 1, 3, none⟩ = some (.slice r1 r2 r3) := cell_later hb2 (by go_simp); have d4 : w2.cell? ⟨w.heap.size + 1, 4, none⟩ = some (.bool em) := cell_later hb2 (by go_simp))
    | (go_at_call 30; refine (KE.out _ hbw).mono ?_; rintro e w3 ⟨rfl, hb3⟩; obtain ⟨n0, n1, n2, o0, o1, o2, n3⟩ := nb_below hb3 nb2))
  have hbx : Below w.heap.size w w3 := hbw.trans (hb3.mono hbw.size)
  exact bodyPost_ret (v := .tuple #[.agg #[.int .i64 0, .slice none 0 0, .slice none 0 0], .int .i64 1]) (by simp [results, Try.results8, go_sem, n0, n1, n2]) rfl ⟨rfl, ((hbx.setCell (by dsimp only; omega) _).setCell (by dsimp only; omega) _).setCell (by dsimp only; omega) _⟩
set_option maxHeartbeats 4000000 in
theorem put_twice (b : Buf) (x : BX) (e : EM) (y : Ent) (w : World) (h : bufAt w b x) (hw : ∀ y ∈ entsB b, wfE y ∧ wfP (plOf y)) (hs : (entsB b).length ≤ 4611686018427387904) (he : errB b = 0) (hr : ER w e y) (hy : wfE y) (hf : fineB y = true) (hh : hasB (entsB b) (plOf y) = true) :
    Calls Try.prog 8 #[bufV b x, e.val] w fun r w' => r = .returned (.tuple #[emptyV, .int .i64 10]) ∧ Below w.heap.size w w' := by
  have KC : Hid (∀ w1, Below w.heap.size w w1 → Calls Try.prog 14 #[bufV b x] w1 fun e w' => e = .returned (.int .i64 0) ∧ Below w1.heap.size w1 w') := fun w1 hb => by
    have := check_any b x w1 (bufAt_below h hb) hw hs
    rwa [he] at this
  have KE : Hid (∀ w1, Below w.heap.size w w1 → Calls Try.prog 30 #[e.val] w1 fun r w' => r = .returned (.bool true) ∧ Below w1.heap.size w1 w') := fun w1 hb => by
    have := entryRight_any e y w1 (hr.below hb) hy
    rwa [hf] at this
  have KP : Hid (∀ w1, Calls Try.prog 32 #[e.val] w1 fun r w' => r = .returned (.agg #[.string e.key, .int .i64 e.time, .int .i64 e.seq]) ∧ Below w1.heap.size w1 w') := fun w1 => placeOf_any e w1
  have KH : Hid (∀ w1, Below w.heap.size w w1 → Calls Try.prog 31 #[bufV b x, .agg #[.string e.key, .int .i64 e.time, .int .i64 e.seq]] w1 fun r w' => r = .returned (.bool true) ∧ Below w1.heap.size w1 w') := fun w1 hb => by
    have k := has_any b x (plOf y) w1 (bufAt_below h hb)
    rw [hh] at k
    unfold plcV plOf at k
    rw [← hr.key, ← hr.time, ← hr.seq] at k
    exact k
  clear h hw hs he hr hy hf hh
  obtain ⟨ra, rc, ⟨⟨m1, m2, m3⟩, ml⟩, rs⟩ := x
  obtain ⟨lim, mem, runs⟩ := b
  obtain ⟨ek, et, es, ⟨r1, r2, r3⟩, em⟩ := e
  unfold bufV hdV at KC KH ⊢
  unfold EM.val hdV at KE KP ⊢
  unfold emptyV
  dsimp only at KC KE KP KH ⊢
  obtain ⟨n, hn⟩ : ∃ n, rs.length = n := ⟨_, rfl⟩
  rw [hn] at KC KH ⊢
  clear hn
  have hb0 : Below w.heap.size w (((w.alloc (.cells #[.int .i64 lim, .slice m1 m2 m3, .slice ra n rc] 25)).alloc (.cells #[.string ek, .int .i64 et, .int .i64 es, .slice r1 r2 r3, .bool em] 28)).alloc (.cells #[.int .i64 0, .slice none 0 0, .slice none 0 0] 25)) := by
    repeat (first | exact Below.refl _ _ | (refine Below.alloc ?_ (by simp <;> omega) _))
  have NBV := nb_alloc ((w.alloc (.cells #[.int .i64 lim, .slice m1 m2 m3, .slice ra n rc] 25)).alloc (.cells #[.string ek, .int .i64 et, .int .i64 es, .slice r1 r2 r3, .bool em] 28))
  rw [World.size_alloc, World.size_alloc] at NBV
  have HNB : Hid (nbAt (((w.alloc (.cells #[.int .i64 lim, .slice m1 m2 m3, .slice ra n rc] 25)).alloc (.cells #[.string ek, .int .i64 et, .int .i64 es, .slice r1 r2 r3, .bool em] 28)).alloc (.cells #[.int .i64 0, .slice none 0 0, .slice none 0 0] 25)) (w.heap.size + 1 + 1)) := NBV
  clear NBV
  go_enter Try.func8, Try.ntmps8
  go_wp2_with (first
    | (go_at_call 14; refine (KC.out _ hb0).mono ?_; rintro e w2 ⟨rfl, hb2⟩; have hbw : Below w.heap.size w w2 := hb0.trans (hb2.mono hb0.size); have nb2 := nb_below hb2 HNB.out; have k0 : w2.cell? ⟨w.heap.size, 0, none⟩ = some (.int .i64 lim) := cell_later hb2 (by go_simp); have k1 : w2.cell? ⟨w.heap.size, 1, none⟩ = some (.slice m1 m2 m3) := cell_later hb2 (by go_simp); have k2 : w2.cell? ⟨w.heap.size, 2, none⟩ = some (.slice ra n rc) := cell_later hb2 (by go_simp); have d0 : w2.cell? ⟨w.heap.size + 1, 0, none⟩ = some (.string ek) := cell_later hb2 (by go_simp); have d1 : w2.cell? ⟨w.heap.size + 1, 1, none⟩ = some (.int .i64 et) := cell_later hb2 (by go_simp); have d2 : w2.cell? ⟨w.heap.size + 1, 2, none⟩ = some (.int .i64 es) := cell_later hb2 (by go_simp); have d3 : w2.cell? ⟨w.heap.size + 1, 3, none⟩ = some (.slice r1 r2 r3) := cell_later hb2 (by go_simp); have d4 : w2.cell? ⟨w.heap.size + 1, 4, none⟩ = some (.bool em) := cell_later hb2 (by go_simp))
    | (go_at_call 30; refine (KE.out _ hbw).mono ?_; rintro e w3 ⟨rfl, hb3⟩; have nb3 := nb_below hb3 nb2; have hbx : Below w.heap.size w w3 := hbw.trans (hb3.mono hbw.size); have k0' : w3.cell? ⟨w.heap.size, 0, none⟩ = some (.int .i64 lim) := cell_later hb3 k0; have k1' : w3.cell? ⟨w.heap.size, 1, none⟩ = some (.slice m1 m2 m3) := cell_later hb3 k1; have k2' : w3.cell? ⟨w.heap.size, 2, none⟩ = some (.slice ra n rc) := cell_later hb3 k2; have d0' : w3.cell? ⟨w.heap.size + 1, 0, none⟩ = some (.string ek) := cell_later hb3 d0; have d1' : w3.cell? ⟨w.heap.size + 1, 1, none⟩ = some (.int .i64 et) := cell_later hb3 d1; have d2' : w3.cell? ⟨w.heap.size + 1, 2, none⟩ = some (.int .i64 es) := cell_later hb3 d2; have d3' : w3.cell? ⟨w.heap.size + 1, 3, none⟩ = some (.slice r1 r2 r3) := cell_later hb3 d3; have d4' : w3.cell? ⟨w.heap.size + 1, 4, none⟩ = some (.bool em) := cell_later hb3 d4))
  go_region_law (first
    | (go_simp; go_at_call 32; refine (KP.out _).mono ?_; rintro e w4 ⟨rfl, hb4⟩; have hbX4 : Below w.heap.size w w4 := hbx.drew.trans (hb4.mono hbx.size); have nb4 := nb_below hb4 (nb_drew nb3); have u0 : w4.cell? ⟨w.heap.size, 0, none⟩ = some (.int .i64 lim) := cell_later hb4 (by go_simp); have u1 : w4.cell? ⟨w.heap.size, 1, none⟩ = some (.slice m1 m2 m3) := cell_later hb4 (by go_simp); have u2 : w4.cell? ⟨w.heap.size, 2, none⟩ = some (.slice ra n rc) := cell_later hb4 (by go_simp))
    | (go_simp; go_at_call 31; refine (KH.out _ hbX4).mono ?_; rintro e w5 ⟨rfl, hb5⟩; have nb5 := nb_below hb5 nb4; have hbX5 : Below w.heap.size w w5 := hbX4.trans (hb5.mono hbX4.size); have s0 : w5.cell? ⟨w.heap.size, 0, none⟩ = some (.int .i64 lim) := cell_later hb5 (by go_simp); have s1 : w5.cell? ⟨w.heap.size, 1, none⟩ = some (.slice m1 m2 m3) := cell_later hb5 (by go_simp); have s2 : w5.cell? ⟨w.heap.size, 2, none⟩ = some (.slice ra n rc) := cell_later hb5 (by go_simp)))
  all_goals
    obtain ⟨n0, n1, n2, o0, o1, o2, n3⟩ := nb5
    go_wp2
    exact bodyPost_ret (v := .tuple #[.agg #[.int .i64 0, .slice none 0 0, .slice none 0 0], .int .i64 10]) (by simp [results, Try.results8, go_sem, n0, n1, n2]) rfl ⟨rfl, ((hbX5.setCell (by dsimp only; omega) _).setCell (by dsimp only; omega) _).setCell (by dsimp only; omega) _⟩
set_option maxHeartbeats 4000000 in
theorem put_many (b : Buf) (x : BX) (e : EM) (y : Ent) (w : World) (h : bufAt w b x) (hw : ∀ y ∈ entsB b, wfE y ∧ wfP (plOf y)) (hs : (entsB b).length ≤ 4611686018427387904) (he : errB b = 0) (hr : ER w e y) (hy : wfE y) (hf : fineB y = true) (hh : hasB (entsB b) (plOf y) = false) (hm : (entsB b).length = 4096) :
    Calls Try.prog 8 #[bufV b x, e.val] w fun r w' => r = .returned (.tuple #[emptyV, .int .i64 2]) ∧ Below w.heap.size w w' := by
  have KC : Hid (∀ w1, Below w.heap.size w w1 → Calls Try.prog 14 #[bufV b x] w1 fun e w' => e = .returned (.int .i64 0) ∧ Below w1.heap.size w1 w') := fun w1 hb => by
    have := check_any b x w1 (bufAt_below h hb) hw hs
    rwa [he] at this
  have KE : Hid (∀ w1, Below w.heap.size w w1 → Calls Try.prog 30 #[e.val] w1 fun r w' => r = .returned (.bool true) ∧ Below w1.heap.size w1 w') := fun w1 hb => by
    have := entryRight_any e y w1 (hr.below hb) hy
    rwa [hf] at this
  have KP : Hid (∀ w1, Calls Try.prog 32 #[e.val] w1 fun r w' => r = .returned (.agg #[.string e.key, .int .i64 e.time, .int .i64 e.seq]) ∧ Below w1.heap.size w1 w') := fun w1 => placeOf_any e w1
  have KH : Hid (∀ w1, Below w.heap.size w w1 → Calls Try.prog 31 #[bufV b x, .agg #[.string e.key, .int .i64 e.time, .int .i64 e.seq]] w1 fun r w' => r = .returned (.bool false) ∧ Below w1.heap.size w1 w') := fun w1 hb => by
    have k := has_any b x (plOf y) w1 (bufAt_below h hb)
    rw [hh] at k
    unfold plcV plOf at k
    rw [← hr.key, ← hr.time, ← hr.seq] at k
    exact k
  have KS : Hid (∀ w1, Below w.heap.size w w1 → Calls Try.prog 33 #[bufV b x] w1 fun r w' => r = .returned (.int .i64 4096) ∧ Below w1.heap.size w1 w') := fun w1 hb => by
    have k := size_any b x w1 (bufAt_below h hb) hs
    rwa [hm] at k
  clear h hw hs he hr hy hf hh hm
  obtain ⟨ra, rc, ⟨⟨m1, m2, m3⟩, ml⟩, rs⟩ := x
  obtain ⟨lim, mem, runs⟩ := b
  obtain ⟨ek, et, es, ⟨r1, r2, r3⟩, em⟩ := e
  unfold bufV hdV at KC KH KS ⊢
  unfold EM.val hdV at KE KP ⊢
  unfold emptyV
  dsimp only at KC KE KP KH KS ⊢
  obtain ⟨n, hn⟩ : ∃ n, rs.length = n := ⟨_, rfl⟩
  rw [hn] at KC KH KS ⊢
  clear hn
  have hb0 : Below w.heap.size w (((w.alloc (.cells #[.int .i64 lim, .slice m1 m2 m3, .slice ra n rc] 25)).alloc (.cells #[.string ek, .int .i64 et, .int .i64 es, .slice r1 r2 r3, .bool em] 28)).alloc (.cells #[.int .i64 0, .slice none 0 0, .slice none 0 0] 25)) := by
    repeat (first | exact Below.refl _ _ | (refine Below.alloc ?_ (by simp <;> omega) _))
  have NBV := nb_alloc ((w.alloc (.cells #[.int .i64 lim, .slice m1 m2 m3, .slice ra n rc] 25)).alloc (.cells #[.string ek, .int .i64 et, .int .i64 es, .slice r1 r2 r3, .bool em] 28))
  rw [World.size_alloc, World.size_alloc] at NBV
  have HNB : Hid (nbAt (((w.alloc (.cells #[.int .i64 lim, .slice m1 m2 m3, .slice ra n rc] 25)).alloc (.cells #[.string ek, .int .i64 et, .int .i64 es, .slice r1 r2 r3, .bool em] 28)).alloc (.cells #[.int .i64 0, .slice none 0 0, .slice none 0 0] 25)) (w.heap.size + 1 + 1)) := NBV
  clear NBV
  go_enter Try.func8, Try.ntmps8
  go_wp2_with (first
    | (go_at_call 14; refine (KC.out _ hb0).mono ?_; rintro e w2 ⟨rfl, hb2⟩; have hbw : Below w.heap.size w w2 := hb0.trans (hb2.mono hb0.size); have nb2 := nb_below hb2 HNB.out; have k0 : w2.cell? ⟨w.heap.size, 0, none⟩ = some (.int .i64 lim) := cell_later hb2 (by go_simp); have k1 : w2.cell? ⟨w.heap.size, 1, none⟩ = some (.slice m1 m2 m3) := cell_later hb2 (by go_simp); have k2 : w2.cell? ⟨w.heap.size, 2, none⟩ = some (.slice ra n rc) := cell_later hb2 (by go_simp); have d0 : w2.cell? ⟨w.heap.size + 1, 0, none⟩ = some (.string ek) := cell_later hb2 (by go_simp); have d1 : w2.cell? ⟨w.heap.size + 1, 1, none⟩ = some (.int .i64 et) := cell_later hb2 (by go_simp); have d2 : w2.cell? ⟨w.heap.size + 1, 2, none⟩ = some (.int .i64 es) := cell_later hb2 (by go_simp); have d3 : w2.cell? ⟨w.heap.size + 1, 3, none⟩ = some (.slice r1 r2 r3) := cell_later hb2 (by go_simp); have d4 : w2.cell? ⟨w.heap.size + 1, 4, none⟩ = some (.bool em) := cell_later hb2 (by go_simp))
    | (go_at_call 30; refine (KE.out _ hbw).mono ?_; rintro e w3 ⟨rfl, hb3⟩; have nb3 := nb_below hb3 nb2; have hbx : Below w.heap.size w w3 := hbw.trans (hb3.mono hbw.size); have k0' : w3.cell? ⟨w.heap.size, 0, none⟩ = some (.int .i64 lim) := cell_later hb3 k0; have k1' : w3.cell? ⟨w.heap.size, 1, none⟩ = some (.slice m1 m2 m3) := cell_later hb3 k1; have k2' : w3.cell? ⟨w.heap.size, 2, none⟩ = some (.slice ra n rc) := cell_later hb3 k2; have d0' : w3.cell? ⟨w.heap.size + 1, 0, none⟩ = some (.string ek) := cell_later hb3 d0; have d1' : w3.cell? ⟨w.heap.size + 1, 1, none⟩ = some (.int .i64 et) := cell_later hb3 d1; have d2' : w3.cell? ⟨w.heap.size + 1, 2, none⟩ = some (.int .i64 es) := cell_later hb3 d2; have d3' : w3.cell? ⟨w.heap.size + 1, 3, none⟩ = some (.slice r1 r2 r3) := cell_later hb3 d3; have d4' : w3.cell? ⟨w.heap.size + 1, 4, none⟩ = some (.bool em) := cell_later hb3 d4))
  go_region_law (first
    | (go_simp; go_at_call 32; refine (KP.out _).mono ?_; rintro e w4 ⟨rfl, hb4⟩; have hbX4 : Below w.heap.size w w4 := hbx.drew.trans (hb4.mono hbx.size); have nb4 := nb_below hb4 (nb_drew nb3); have u0 : w4.cell? ⟨w.heap.size, 0, none⟩ = some (.int .i64 lim) := cell_later hb4 (by go_simp); have u1 : w4.cell? ⟨w.heap.size, 1, none⟩ = some (.slice m1 m2 m3) := cell_later hb4 (by go_simp); have u2 : w4.cell? ⟨w.heap.size, 2, none⟩ = some (.slice ra n rc) := cell_later hb4 (by go_simp))
    | (go_simp; go_at_call 31; refine (KH.out _ hbX4).mono ?_; rintro e w5 ⟨rfl, hb5⟩; have nb5 := nb_below hb5 nb4; have hbX5 : Below w.heap.size w w5 := hbX4.trans (hb5.mono hbX4.size); have s0 : w5.cell? ⟨w.heap.size, 0, none⟩ = some (.int .i64 lim) := cell_later hb5 (by go_simp); have s1 : w5.cell? ⟨w.heap.size, 1, none⟩ = some (.slice m1 m2 m3) := cell_later hb5 (by go_simp); have s2 : w5.cell? ⟨w.heap.size, 2, none⟩ = some (.slice ra n rc) := cell_later hb5 (by go_simp)))
  all_goals
    go_wp2_with (go_at_call 33; refine (KS.out _ hbX5).mono ?_; rintro e w6 ⟨rfl, hb6⟩; obtain ⟨n0, n1, n2, o0, o1, o2, n3⟩ := nb_below hb6 nb5)
    have hbX6 : Below w.heap.size w w6 := hbX5.trans (hb6.mono hbX5.size)
    exact bodyPost_ret (v := .tuple #[.agg #[.int .i64 0, .slice none 0 0, .slice none 0 0], .int .i64 2]) (by simp [results, Try.results8, go_sem, n0, n1, n2]) rfl ⟨rfl, ((hbX6.setCell (by dsimp only; omega) _).setCell (by dsimp only; omega) _).setCell (by dsimp only; omega) _⟩
end Go.Proofs.Ytnfknkihiapgiaa.bf
