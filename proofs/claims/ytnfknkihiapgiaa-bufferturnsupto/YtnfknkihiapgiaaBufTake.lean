/- Take: the buffer without the entry of a place. -/
import Derived.Test.YtnfknkihiapgiaaBufDrop
namespace Go.Proofs.Ytnfknkihiapgiaa.bf
open Go.ChangeShapes Go.WideShapes Go.ChangeAt Go.RowKit
open vl
set_option linter.unusedVariables false
set_option linter.unusedSimpArgs false
attribute [local go_sem] Oper.semAt_some
def notAt (p : Plc) (y : Ent) : Bool := !decide (plOf y = p)
set_option maxHeartbeats 4000000 in
theorem take1_any (e : EM) (p : Plc) (PB : Nat) (w : World) (h0 : w.cell? ⟨PB, 0, none⟩ = some (.string p.1)) (h1 : w.cell? ⟨PB, 1, none⟩ = some (.int .i64 p.2.1)) (h2 : w.cell? ⟨PB, 2, none⟩ = some (.int .i64 p.2.2)) :
    Calls Try.prog 49 #[e.val, .pointer (some ⟨PB, 0, none⟩)] w fun r w' => r = .returned (.bool (!decide ((e.key, e.time, e.seq) = p))) ∧ Below w.heap.size w w' := by
  have KP : Hid (∀ w1, Calls Try.prog 32 #[e.val] w1 fun r w' => r = .returned (.agg #[.string e.key, .int .i64 e.time, .int .i64 e.seq]) ∧ Below w1.heap.size w1 w') := fun w1 => placeOf_any e w1
  obtain ⟨ek, et, es, ⟨r1, r2, r3⟩, em⟩ := e
  obtain ⟨pk, pt, ps⟩ := p
  unfold EM.val hdV at KP ⊢
  dsimp only at KP h0 h1 h2 ⊢
  have lP : PB < w.heap.size := World.block_lt_of_cell? _ _ h0
  by_cases hE : (ek, et, es) = (pk, pt, ps)
  · have HR : Hid ((!decide ((ek, et, es) = (pk, pt, ps))) = false) := by show _ = _; rw [decide_eq_true hE]; rfl
    obtain ⟨R, hR⟩ : ∃ z, (!decide ((ek, et, es) = (pk, pt, ps))) = z := ⟨_, rfl⟩
    rw [hR] at HR ⊢
    clear hR
    injection hE with e1 e23
    injection e23 with e2 e3
    have e1' := e1.symm
    have e2' := e2.symm
    have e3' := e3.symm
    subst e1' e2' e3'
    go_enter Try.func49, Try.ntmps49
    go_wp2
    go_region_law (go_simp; go_at_call 32; refine (KP.out _).mono ?_; rintro e w2 ⟨rfl, hb2⟩; have k0 : w2.cell? ⟨PB, 0, none⟩ = some (.string pk) := cell_later hb2 (by go_simp); have k1 : w2.cell? ⟨PB, 1, none⟩ = some (.int .i64 pt) := cell_later hb2 (by go_simp); have k2 : w2.cell? ⟨PB, 2, none⟩ = some (.int .i64 ps) := cell_later hb2 (by go_simp))
    all_goals
      go_wp2
      go_ret
      exact ⟨ret_bool HR.out.symm, ((Below.refl _ _).alloc (Nat.le_refl _) _).drew.trans (hb2.mono (by simp))⟩
  · have HR : Hid ((!decide ((ek, et, es) = (pk, pt, ps))) = true) := by show _ = _; rw [decide_eq_false hE]; rfl
    obtain ⟨R, hR⟩ : ∃ z, (!decide ((ek, et, es) = (pk, pt, ps))) = z := ⟨_, rfl⟩
    rw [hR] at HR ⊢
    clear hR
    by_cases t1 : ek.toList = pk.toList
    · by_cases t2 : et = pt
      · have t3 : (es == ps) = false := by
          rw [beq_eq_false_iff_ne]
          intro e3
          have e1 : ek = pk := by have := bytes_beq ek pk; rw [t1] at this; simpa using this.symm
          exact hE (by rw [e1, t2, e3])
        have t2' := t2.symm
        subst t2'
        go_enter Try.func49, Try.ntmps49
        go_wp2
        go_region_law (go_simp; go_at_call 32; refine (KP.out _).mono ?_; rintro e w2 ⟨rfl, hb2⟩; have k0 : w2.cell? ⟨PB, 0, none⟩ = some (.string pk) := cell_later hb2 (by go_simp); have k1 : w2.cell? ⟨PB, 1, none⟩ = some (.int .i64 pt) := cell_later hb2 (by go_simp); have k2 : w2.cell? ⟨PB, 2, none⟩ = some (.int .i64 ps) := cell_later hb2 (by go_simp))
        all_goals
          go_wp2
          go_ret
          exact ⟨ret_bool HR.out.symm, ((Below.refl _ _).alloc (Nat.le_refl _) _).drew.trans (hb2.mono (by simp))⟩
      · have t2' : (et == pt) = false := by simpa using t2
        go_enter Try.func49, Try.ntmps49
        go_wp2
        go_region_law (go_simp; go_at_call 32; refine (KP.out _).mono ?_; rintro e w2 ⟨rfl, hb2⟩; have k0 : w2.cell? ⟨PB, 0, none⟩ = some (.string pk) := cell_later hb2 (by go_simp); have k1 : w2.cell? ⟨PB, 1, none⟩ = some (.int .i64 pt) := cell_later hb2 (by go_simp); have k2 : w2.cell? ⟨PB, 2, none⟩ = some (.int .i64 ps) := cell_later hb2 (by go_simp))
        all_goals
          go_wp2
          go_ret
          exact ⟨ret_bool HR.out.symm, ((Below.refl _ _).alloc (Nat.le_refl _) _).drew.trans (hb2.mono (by simp))⟩
    · skip
      go_enter Try.func49, Try.ntmps49
      go_wp2
      go_region_law (go_simp; go_at_call 32; refine (KP.out _).mono ?_; rintro e w2 ⟨rfl, hb2⟩; have k0 : w2.cell? ⟨PB, 0, none⟩ = some (.string pk) := cell_later hb2 (by go_simp); have k1 : w2.cell? ⟨PB, 1, none⟩ = some (.int .i64 pt) := cell_later hb2 (by go_simp); have k2 : w2.cell? ⟨PB, 2, none⟩ = some (.int .i64 ps) := cell_later hb2 (by go_simp))
      all_goals
        go_wp2
        go_ret
        exact ⟨ret_bool HR.out.symm, ((Below.refl _ _).alloc (Nat.le_refl _) _).drew.trans (hb2.mono (by simp))⟩
set_option maxHeartbeats 4000000 in
theorem take_bad (b : Buf) (x : BX) (p : Plc) (w : World) (h : bufAt w b x) (hw : ∀ y ∈ entsB b, wfE y ∧ wfP (plOf y)) (hs : (entsB b).length ≤ 4611686018427387904) (he : errB b ≠ 0) :
    Calls Try.prog 16 #[bufV b x, .string p.1, .int .i64 p.2.1, .int .i64 p.2.2] w fun e w' => e = .returned (.tuple #[emptyV, .int .i64 (errB b)]) ∧ Below w.heap.size w w' := by
  have KC : Hid (∀ w1, Below w.heap.size w w1 → Calls Try.prog 14 #[bufV b x] w1 fun e w' => e = .returned (.int .i64 (errB b)) ∧ Below w1.heap.size w1 w') := fun w1 hb => check_any b x w1 (bufAt_below h hb) hw hs
  obtain ⟨E, hE⟩ : ∃ z, errB b = z := ⟨_, rfl⟩
  rw [hE] at KC he ⊢
  clear hE h hw hs
  obtain ⟨ra, rc, ⟨⟨m1, m2, m3⟩, ml⟩, rs⟩ := x
  obtain ⟨lim, mem, runs⟩ := b
  obtain ⟨pk, pt, ps⟩ := p
  unfold bufV hdV at KC ⊢
  unfold emptyV
  dsimp only at KC ⊢
  obtain ⟨n, hn⟩ : ∃ n, rs.length = n := ⟨_, rfl⟩
  rw [hn] at KC ⊢
  clear hn
  have hbe : (E != 0) = true := by simpa using he
  have hb0 : Below w.heap.size w ((w.alloc (.cells #[.int .i64 lim, .slice m1 m2 m3, .slice ra n rc] 25)).alloc (.cells #[.int .i64 0, .slice none 0 0, .slice none 0 0] 25)) := by
    repeat (first | exact Below.refl _ _ | (refine Below.alloc ?_ (by simp <;> omega) _))
  have NBV := nb_alloc (w.alloc (.cells #[.int .i64 lim, .slice m1 m2 m3, .slice ra n rc] 25))
  rw [World.size_alloc] at NBV
  have HNB : Hid (nbAt ((w.alloc (.cells #[.int .i64 lim, .slice m1 m2 m3, .slice ra n rc] 25)).alloc (.cells #[.int .i64 0, .slice none 0 0, .slice none 0 0] 25)) (w.heap.size + 1)) := NBV
  clear NBV
  go_enter Try.func16, Try.ntmps16
  go_wp2_with (go_at_call 14; refine (KC.out _ hb0).mono ?_; rintro e w2 ⟨rfl, hb2⟩; obtain ⟨n0, n1, n2, o0, o1, o2, n3⟩ := nb_below hb2 HNB.out)
  have hbw : Below w.heap.size w w2 := hb0.trans (hb2.mono hb0.size)
  exact bodyPost_ret (v := .tuple #[.agg #[.int .i64 0, .slice none 0 0, .slice none 0 0], .int .i64 E]) (by simp [results, Try.results16, go_sem, n0, n1, n2]) rfl ⟨rfl, ((hbw.setCell (by dsimp only; omega) _).setCell (by dsimp only; omega) _).setCell (by dsimp only; omega) _⟩
set_option maxHeartbeats 4000000 in
theorem take_none (b : Buf) (x : BX) (p : Plc) (w : World) (h : bufAt w b x) (hw : ∀ y ∈ entsB b, wfE y ∧ wfP (plOf y)) (hs : (entsB b).length ≤ 4611686018427387904) (he : errB b = 0) (hh : hasB (entsB b) p = false) :
    Calls Try.prog 16 #[bufV b x, .string p.1, .int .i64 p.2.1, .int .i64 p.2.2] w fun e w' => e = .returned (.tuple #[emptyV, .int .i64 9]) ∧ Below w.heap.size w w' := by
  have KC : Hid (∀ w1, Below w.heap.size w w1 → Calls Try.prog 14 #[bufV b x] w1 fun e w' => e = .returned (.int .i64 0) ∧ Below w1.heap.size w1 w') := fun w1 hb => by
    have := check_any b x w1 (bufAt_below h hb) hw hs
    rwa [he] at this
  have KH : Hid (∀ w1, Below w.heap.size w w1 → Calls Try.prog 31 #[bufV b x, plcV p] w1 fun e w' => e = .returned (.bool (hasB (entsB b) p)) ∧ Below w1.heap.size w1 w') := fun w1 hb => has_any b x p w1 (bufAt_below h hb)
  rw [hh] at KH
  clear h hw hs he hh
  obtain ⟨ra, rc, ⟨⟨m1, m2, m3⟩, ml⟩, rs⟩ := x
  obtain ⟨lim, mem, runs⟩ := b
  obtain ⟨pk, pt, ps⟩ := p
  unfold bufV hdV at KC KH ⊢
  unfold plcV at KH
  unfold emptyV
  dsimp only at KC KH ⊢
  obtain ⟨n, hn⟩ : ∃ n, rs.length = n := ⟨_, rfl⟩
  rw [hn] at KC KH ⊢
  clear hn
  have hb0 : Below w.heap.size w ((w.alloc (.cells #[.int .i64 lim, .slice m1 m2 m3, .slice ra n rc] 25)).alloc (.cells #[.int .i64 0, .slice none 0 0, .slice none 0 0] 25)) := by
    repeat (first | exact Below.refl _ _ | (refine Below.alloc ?_ (by simp <;> omega) _))
  have NBV := nb_alloc (w.alloc (.cells #[.int .i64 lim, .slice m1 m2 m3, .slice ra n rc] 25))
  rw [World.size_alloc] at NBV
  have HNB : Hid (nbAt ((w.alloc (.cells #[.int .i64 lim, .slice m1 m2 m3, .slice ra n rc] 25)).alloc (.cells #[.int .i64 0, .slice none 0 0, .slice none 0 0] 25)) (w.heap.size + 1)) := NBV
  clear NBV
  go_enter Try.func16, Try.ntmps16
  go_wp2_with (first
    | (go_at_call 14; refine (KC.out _ hb0).mono ?_; rintro e w2 ⟨rfl, hb2⟩; have hbw : Below w.heap.size w w2 := hb0.trans (hb2.mono hb0.size); have nb2 := nb_below hb2 HNB.out; have k0 : w2.cell? ⟨w.heap.size, 0, none⟩ = some (.int .i64 lim) := cell_later hb2 (by go_simp); have k1 : w2.cell? ⟨w.heap.size, 1, none⟩ = some (.slice m1 m2 m3) := cell_later hb2 (by go_simp); have k2 : w2.cell? ⟨w.heap.size, 2, none⟩ = some (.slice ra n rc) := cell_later hb2 (by go_simp); have lw : w.heap.size < w2.heap.size := World.block_lt_of_cell? _ _ k0)
    | (go_at_call 31; refine (KH.out _ (hbw.alloc hbw.size _)).mono ?_; rintro e w3 ⟨rfl, hb3⟩; obtain ⟨n0, n1, n2, o0, o1, o2, n3⟩ := nb_below hb3 (nb_below ((Below.refl _ _).alloc (Nat.le_refl _) _) nb2)))
  have hbx : Below w.heap.size w w3 := (hbw.alloc hbw.size _).trans (hb3.mono (hbw.alloc hbw.size _).size)
  exact bodyPost_ret (v := .tuple #[.agg #[.int .i64 0, .slice none 0 0, .slice none 0 0], .int .i64 9]) (by simp [results, Try.results16, go_sem, n0, n1, n2]) rfl ⟨rfl, ((hbx.setCell (by dsimp only; omega) _).setCell (by dsimp only; omega) _).setCell (by dsimp only; omega) _⟩
set_option maxHeartbeats 4000000 in
theorem take_ok (b : Buf) (x : BX) (p : Plc) (w : World) (h : bufAt w b x) (hw : ∀ y ∈ entsB b, wfE y ∧ wfP (plOf y)) (hs : (entsB b).length ≤ 4611686018427387904) (he : errB b = 0) (hh : hasB (entsB b) p = true) :
    Calls Try.prog 16 #[bufV b x, .string p.1, .int .i64 p.2.1, .int .i64 p.2.2] w fun e w' => (∃ x', e = .returned (.tuple #[bufV (keptB (notAt p) b) x', .int .i64 0]) ∧ OB w' w.heap.size x' (keptB (notAt p) b)) ∧ Below w.heap.size w w' := by
  have KC : Hid (∀ w1, Below w.heap.size w w1 → Calls Try.prog 14 #[bufV b x] w1 fun e w' => e = .returned (.int .i64 0) ∧ Below w1.heap.size w1 w') := fun w1 hb => by
    have := check_any b x w1 (bufAt_below h hb) hw hs
    rwa [he] at this
  have KH : Hid (∀ w1, Below w.heap.size w w1 → Calls Try.prog 31 #[bufV b x, plcV p] w1 fun e w' => e = .returned (.bool (hasB (entsB b) p)) ∧ Below w1.heap.size w1 w') := fun w1 hb => has_any b x p w1 (bufAt_below h hb)
  rw [hh] at KH
  have hsm := (okB_of he).small
  have KK : Hid (∀ PB w1, Below w.heap.size w w1 → w1.cell? ⟨PB, 0, none⟩ = some (.string p.1) → w1.cell? ⟨PB, 1, none⟩ = some (.int .i64 p.2.1) → w1.cell? ⟨PB, 2, none⟩ = some (.int .i64 p.2.2) → Calls Try.prog 34 #[bufV b x, .func (.func 49) #[] #[.pointer (some ⟨PB, 0, none⟩)]] w1 fun e w' => (∃ x', e = .returned (bufV (keptB (notAt p) b) x') ∧ OB w' w1.heap.size x' (keptB (notAt p) b)) ∧ Below w1.heap.size w1 w') := fun PB w1 hb c0 c1 c2 =>
    kept_any 49 (enters_of Try.func49 (by kernel_rfl) rfl) #[.pointer (some ⟨PB, 0, none⟩)] (notAt p) b x w1 (bufAt_below h hb) hsm.1 hsm.2.1 hsm.2.2 (fun e y w2 her _ hb2 => by
      have := take1_any e p PB w2 (cell_later hb2 c0) (cell_later hb2 c1) (cell_later hb2 c2)
      rw [her.key, her.time, her.seq] at this
      exact this)
  clear h hw hs he hsm hh
  obtain ⟨lim', hlim⟩ : ∃ z, (keptB (notAt p) b) = z := ⟨_, rfl⟩
  rw [hlim] at KK ⊢
  clear hlim
  obtain ⟨ra, rc, ⟨⟨m1, m2, m3⟩, ml⟩, rs⟩ := x
  obtain ⟨lim, mem, runs⟩ := b
  obtain ⟨pk, pt, ps⟩ := p
  rw [show bufV ⟨lim, mem, runs⟩ ⟨ra, rc, ((m1, m2, m3), ml), rs⟩ = .agg #[.int .i64 lim, .slice m1 m2 m3, .slice ra rs.length rc] from rfl] at KC KK KH ⊢
  unfold plcV at KH
  dsimp only at KH KK ⊢
  obtain ⟨n, hn⟩ : ∃ n, rs.length = n := ⟨_, rfl⟩
  rw [hn] at KC KK KH ⊢
  clear hn
  have hb0 : Below w.heap.size w ((w.alloc (.cells #[.int .i64 lim, .slice m1 m2 m3, .slice ra n rc] 25)).alloc (.cells #[.int .i64 0, .slice none 0 0, .slice none 0 0] 25)) := by
    repeat (first | exact Below.refl _ _ | (refine Below.alloc ?_ (by simp <;> omega) _))
  have NBV := nb_alloc (w.alloc (.cells #[.int .i64 lim, .slice m1 m2 m3, .slice ra n rc] 25))
  rw [World.size_alloc] at NBV
  have HNB : Hid (nbAt ((w.alloc (.cells #[.int .i64 lim, .slice m1 m2 m3, .slice ra n rc] 25)).alloc (.cells #[.int .i64 0, .slice none 0 0, .slice none 0 0] 25)) (w.heap.size + 1)) := NBV
  clear NBV
  go_enter Try.func16, Try.ntmps16
  go_wp2_with (first
    | (go_at_call 14; refine (KC.out _ hb0).mono ?_; rintro e w2 ⟨rfl, hb2⟩; have hbw : Below w.heap.size w w2 := hb0.trans (hb2.mono hb0.size); have nb2 := nb_below hb2 HNB.out; have k0 : w2.cell? ⟨w.heap.size, 0, none⟩ = some (.int .i64 lim) := cell_later hb2 (by go_simp); have k1 : w2.cell? ⟨w.heap.size, 1, none⟩ = some (.slice m1 m2 m3) := cell_later hb2 (by go_simp); have k2 : w2.cell? ⟨w.heap.size, 2, none⟩ = some (.slice ra n rc) := cell_later hb2 (by go_simp); have lw : w.heap.size < w2.heap.size := World.block_lt_of_cell? _ _ k0)
    | (go_at_call 31; refine (KH.out _ (hbw.alloc hbw.size _)).mono ?_; rintro e w3 ⟨rfl, hb3⟩; have nb3 := nb_below hb3 (nb_below ((Below.refl _ _).alloc (Nat.le_refl _) _) nb2); have hbx : Below w.heap.size w w3 := (hbw.alloc hbw.size _).trans (hb3.mono (hbw.alloc hbw.size _).size); have l0 : w3.cell? ⟨w.heap.size, 0, none⟩ = some (.int .i64 lim) := cell_later hb3 (by go_simp); have l1 : w3.cell? ⟨w.heap.size, 1, none⟩ = some (.slice m1 m2 m3) := cell_later hb3 (by go_simp); have l2 : w3.cell? ⟨w.heap.size, 2, none⟩ = some (.slice ra n rc) := cell_later hb3 (by go_simp); have p0 : w3.cell? ⟨w2.heap.size, 0, none⟩ = some (.string pk) := cell_later hb3 (by go_simp); have p1 : w3.cell? ⟨w2.heap.size, 1, none⟩ = some (.int .i64 pt) := cell_later hb3 (by go_simp); have p2 : w3.cell? ⟨w2.heap.size, 2, none⟩ = some (.int .i64 ps) := cell_later hb3 (by go_simp))
    | (go_at_call 34; refine (KK.out w2.heap.size _ hbx p0 p1 p2).mono ?_; rintro e w4 ⟨⟨⟨ra', rc', ⟨⟨a1, a2, a3⟩, ml'⟩, rs'⟩, rfl, hob⟩, hb4⟩; rw [show bufV lim' ⟨ra', rc', ((a1, a2, a3), ml'), rs'⟩ = .agg #[.int .i64 lim'.lim, .slice a1 a2 a3, .slice ra' rs'.length rc'] from rfl]; have HNB3 : Hid (nbAt w4 (w.heap.size + 1)) := nb_below hb4 nb3; obtain ⟨n0, n1, n2, o0, o1, o2, n3⟩ := HNB3.out))
  have hby : Below w.heap.size w w4 := hbx.trans (hb4.mono hbx.size)
  refine bodyPost_ret (v := .tuple #[.agg #[.int .i64 lim'.lim, .slice a1 a2 a3, .slice ra' rs'.length rc'], .int .i64 0]) (by simp [results, Try.results16, go_sem, n0, n1, n2]) rfl ⟨⟨⟨ra', rc', ((a1, a2, a3), ml'), rs'⟩, rfl, ?_⟩, ((hby.setCell (by dsimp only; omega) _).setCell (by dsimp only; omega) _).setCell (by dsimp only; omega) _⟩
  exact OB_set3 (OB_mono hob hbx.size) n3 _ _ _
end Go.Proofs.Ytnfknkihiapgiaa.bf
