/- Meet, where it errs. -/
import Derived.Test.YtnfknkihiapgiaaBufPut
namespace Go.Proofs.Ytnfknkihiapgiaa.bf
open Go.ChangeShapes Go.WideShapes Go.ChangeAt Go.RowKit
open vl
set_option linter.unusedVariables false
set_option linter.unusedSimpArgs false
attribute [local go_sem] Oper.semAt_some
set_option maxHeartbeats 4000000 in
theorem meet_bad (b : Buf) (x : BX) (p : Plc) (w : World) (h : bufAt w b x) (hw : ∀ y ∈ entsB b, wfE y ∧ wfP (plOf y)) (hs : (entsB b).length ≤ 4611686018427387904) (he : errB b ≠ 0) :
    Calls Try.prog 15 #[bufV b x, .string p.1, .int .i64 p.2.1, .int .i64 p.2.2] w fun e w' => e = .returned (.tuple #[emptyV, .int .i64 (errB b)]) ∧ Below w.heap.size w w' := by
  have KC : Hid (∀ w1, Below w.heap.size w w1 → Calls Try.prog 14 #[bufV b x] w1 fun e w' => e = .returned (.int .i64 (errB b)) ∧ Below w1.heap.size w1 w') := fun w1 hb => check_any b x w1 (bufAt_below h hb) hw hs
  obtain ⟨E, hE⟩ : ∃ z, errB b = z := ⟨_, rfl⟩
  rw [hE] at KC he ⊢
  clear hE h hw hs
  obtain ⟨ra, rc, ⟨⟨m1, m2, m3⟩, ml⟩, rs⟩ := x
  obtain ⟨lim, mem, runs⟩ := b
  obtain ⟨pk, pt, ps⟩ := p
  unfold bufV hdV at KC ⊢
  unfold emptyV
  dsimp only at KC ⊢
  obtain ⟨n, hn⟩ : ∃ n, rs.length = n := ⟨_, rfl⟩
  rw [hn] at KC ⊢
  clear hn
  have hbe : (E != 0) = true := by simpa using he
  have hb0 : Below w.heap.size w ((w.alloc (.cells #[.int .i64 lim, .slice m1 m2 m3, .slice ra n rc] 25)).alloc (.cells #[.int .i64 0, .slice none 0 0, .slice none 0 0] 25)) := by
    repeat (first | exact Below.refl _ _ | (refine Below.alloc ?_ (by simp <;> omega) _))
  have NBV := nb_alloc (w.alloc (.cells #[.int .i64 lim, .slice m1 m2 m3, .slice ra n rc] 25))
  rw [World.size_alloc] at NBV
  have HNB : Hid (nbAt ((w.alloc (.cells #[.int .i64 lim, .slice m1 m2 m3, .slice ra n rc] 25)).alloc (.cells #[.int .i64 0, .slice none 0 0, .slice none 0 0] 25)) (w.heap.size + 1)) := NBV
  clear NBV
  go_enter Try.func15, Try.ntmps15
  go_wp2_with (go_at_call 14; refine (KC.out _ hb0).mono ?_; rintro e w2 ⟨rfl, hb2⟩; obtain ⟨n0, n1, n2, o0, o1, o2, n3⟩ := nb_below hb2 HNB.out)
  have hbw : Below w.heap.size w w2 := hb0.trans (hb2.mono hb0.size)
  exact bodyPost_ret (v := .tuple #[.agg #[.int .i64 0, .slice none 0 0, .slice none 0 0], .int .i64 E]) (by simp [results, Try.results15, go_sem, n0, n1, n2]) rfl ⟨rfl, ((hbw.setCell (by dsimp only; omega) _).setCell (by dsimp only; omega) _).setCell (by dsimp only; omega) _⟩
set_option maxHeartbeats 4000000 in
theorem meet_none (b : Buf) (x : BX) (p : Plc) (w : World) (h : bufAt w b x) (hw : ∀ y ∈ entsB b, wfE y ∧ wfP (plOf y)) (hs : (entsB b).length ≤ 4611686018427387904) (he : errB b = 0) (hh : hasB (entsB b) p = false) :
    Calls Try.prog 15 #[bufV b x, .string p.1, .int .i64 p.2.1, .int .i64 p.2.2] w fun e w' => e = .returned (.tuple #[emptyV, .int .i64 9]) ∧ Below w.heap.size w w' := by
  have KC : Hid (∀ w1, Below w.heap.size w w1 → Calls Try.prog 14 #[bufV b x] w1 fun e w' => e = .returned (.int .i64 0) ∧ Below w1.heap.size w1 w') := fun w1 hb => by
    have := check_any b x w1 (bufAt_below h hb) hw hs
    rwa [he] at this
  have KH : Hid (∀ w1, Below w.heap.size w w1 → Calls Try.prog 31 #[bufV b x, plcV p] w1 fun e w' => e = .returned (.bool (hasB (entsB b) p)) ∧ Below w1.heap.size w1 w') := fun w1 hb => has_any b x p w1 (bufAt_below h hb)
  rw [hh] at KH
  clear h hw hs he hh
  obtain ⟨ra, rc, ⟨⟨m1, m2, m3⟩, ml⟩, rs⟩ := x
  obtain ⟨lim, mem, runs⟩ := b
  obtain ⟨pk, pt, ps⟩ := p
  unfold bufV hdV at KC KH ⊢
  unfold plcV at KH
  unfold emptyV
  dsimp only at KC KH ⊢
  obtain ⟨n, hn⟩ : ∃ n, rs.length = n := ⟨_, rfl⟩
  rw [hn] at KC KH ⊢
  clear hn
  have hb0 : Below w.heap.size w ((w.alloc (.cells #[.int .i64 lim, .slice m1 m2 m3, .slice ra n rc] 25)).alloc (.cells #[.int .i64 0, .slice none 0 0, .slice none 0 0] 25)) := by
    repeat (first | exact Below.refl _ _ | (refine Below.alloc ?_ (by simp <;> omega) _))
  have NBV := nb_alloc (w.alloc (.cells #[.int .i64 lim, .slice m1 m2 m3, .slice ra n rc] 25))
  rw [World.size_alloc] at NBV
  have HNB : Hid (nbAt ((w.alloc (.cells #[.int .i64 lim, .slice m1 m2 m3, .slice ra n rc] 25)).alloc (.cells #[.int .i64 0, .slice none 0 0, .slice none 0 0] 25)) (w.heap.size + 1)) := NBV
  clear NBV
  go_enter Try.func15, Try.ntmps15
  go_wp2_with (first
    | (go_at_call 14; refine (KC.out _ hb0).mono ?_; rintro e w2 ⟨rfl, hb2⟩; have hbw : Below w.heap.size w w2 := hb0.trans (hb2.mono hb0.size); have nb2 := nb_below hb2 HNB.out; have k0 : w2.cell? ⟨w.heap.size, 0, none⟩ = some (.int .i64 lim) := cell_later hb2 (by go_simp); have k1 : w2.cell? ⟨w.heap.size, 1, none⟩ = some (.slice m1 m2 m3) := cell_later hb2 (by go_simp); have k2 : w2.cell? ⟨w.heap.size, 2, none⟩ = some (.slice ra n rc) := cell_later hb2 (by go_simp); have lw : w.heap.size < w2.heap.size := World.block_lt_of_cell? _ _ k0)
    | (go_at_call 31; refine (KH.out _ (hbw.alloc hbw.size _)).mono ?_; rintro e w3 ⟨rfl, hb3⟩; obtain ⟨n0, n1, n2, o0, o1, o2, n3⟩ := nb_below hb3 (nb_below ((Below.refl _ _).alloc (Nat.le_refl _) _) nb2)))
  have hbx : Below w.heap.size w w3 := (hbw.alloc hbw.size _).trans (hb3.mono (hbw.alloc hbw.size _).size)
  exact bodyPost_ret (v := .tuple #[.agg #[.int .i64 0, .slice none 0 0, .slice none 0 0], .int .i64 9]) (by simp [results, Try.results15, go_sem, n0, n1, n2]) rfl ⟨rfl, ((hbx.setCell (by dsimp only; omega) _).setCell (by dsimp only; omega) _).setCell (by dsimp only; omega) _⟩
end Go.Proofs.Ytnfknkihiapgiaa.bf
