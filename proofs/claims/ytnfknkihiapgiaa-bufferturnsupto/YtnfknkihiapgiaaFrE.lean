/- Several texts in one: BufRThere, BufRPut, BufRTake. -/
import Derived.Test.YtnfknkihiapgiaaFrD
/- The document's There and PutError, of a right buffer. -/
namespace Go.Proofs.Ytnfknkihiapgiaa.bf
open Go.ChangeShapes Go.WideShapes Go.ChangeAt Go.RowKit
open vl
set_option linter.unusedVariables false
set_option linter.unusedSimpArgs false
attribute [local go_sem] Oper.semAt_some
theorem rowAt_nil (w : World) (a : Option Addr) : vl.rowAt w a [] := fun i hi => absurd hi (Nat.not_lt_zero i)
set_option maxHeartbeats 4000000 in
theorem there_ok (b : Buf) (x : BX) (p : Plc) (w : World) (h : bufAt w b x) (ok : okB b) :
    Calls Try.prog 17 #[bufV b x, .string p.1, .int .i64 p.2.1, .int .i64 p.2.2] w fun e w' => e = .returned (.bool (hasB (entsB b) p)) ∧ Below w.heap.size w w' := by
  have KE : Hid (∀ w1, Below w.heap.size w w1 → Calls Try.prog 41 #[bufV b x] w1 fun r w' => (∃ (hh : Hdr) (es : List EM) (l : List Ent) (f : Bool), r = .returned (.tuple #[hdV hh, .bool f]) ∧ OE w' w.heap.size (hdV hh) es l ∧ Rise l ∧ l.length ≤ 100000 ∧ ∀ q, hasB l q = hasB (entsB b) q) ∧ Below w1.heap.size w1 w') := fun w1 hb =>
    (entries_any b x w1 (bufAt_below h hb) ok.size.1 ok.size.2).mono (fun e w' ⟨⟨hh, es, l, f, he, hoe, hes⟩, hbb⟩ => ⟨⟨hh, es, l, f, he, hoe.mono (by have := hb.size; omega), hes.rise, Nat.le_trans hes.len ok.size.1, hes.has⟩, hbb⟩)
  obtain ⟨L, hL⟩ : ∃ z, entsB b = z := ⟨_, rfl⟩
  rw [hL] at KE ⊢
  clear h ok hL
  obtain ⟨ra, rc, ⟨⟨m1, m2, m3⟩, ml⟩, rs⟩ := x
  obtain ⟨lim, mem, runs⟩ := b
  rw [show bufV ⟨lim, mem, runs⟩ ⟨ra, rc, ((m1, m2, m3), ml), rs⟩ = .agg #[.int .i64 lim, .slice m1 m2 m3, .slice ra rs.length rc] from rfl] at KE ⊢
  obtain ⟨n, hn⟩ : ∃ n, rs.length = n := ⟨_, rfl⟩
  rw [hn] at KE ⊢
  clear hn
  obtain ⟨pk, pt, ps⟩ := p
  dsimp only
  have hb0 : Below w.heap.size w (w.alloc (.cells #[.int .i64 lim, .slice m1 m2 m3, .slice ra n rc] 25)) := (Below.refl _ _).alloc (Nat.le_refl _) _
  obtain ⟨R, hR⟩ : ∃ z, hasB L (pk, pt, ps) = z := ⟨_, rfl⟩
  have HR : Hid (hasB L (pk, pt, ps) = R) := hR
  rw [hR]
  clear hR
  go_enter Try.func17, Try.ntmps17
  go_wp2_with (first
    | (go_at_call 41; refine (KE.out _ hb0).mono ?_; rintro e w2 ⟨⟨⟨q1, q2, q3⟩, es, l, f, rfl, hoe, hri, hln, hhas⟩, hb2⟩; rw [show hdV (q1, q2, q3) = .slice q1 q2 q3 from rfl] at hoe ⊢; have hq : q2 = es.length := (by obtain ⟨ad, cp, e⟩ := hoe.form; cases e; rfl); subst hq; have hbw : Below w.heap.size w w2 := hb0.trans (hb2.mono hb0.size); have HI : Hid (Calls Try.prog 45 #[.slice q1 es.length q3, .agg #[.string pk, .int .i64 pt, .int .i64 ps, .slice none 0 0, .bool false]] w2 fun r w' => (∃ hh : Hdr, r = .returned (.tuple #[hdV hh, .bool (!R)])) ∧ Below w.heap.size w2 w') := ((into_any w.heap.size q1 q3 es l ⟨pk, pt, ps, (none, 0, 0), false⟩ ⟨pk, pt, ps, [], false⟩ w2 hoe (fun w1 hb1 => ⟨rfl, rfl, rfl, rfl, rfl, rowAt_nil _ _⟩) hri hln (by simp)).mono (fun r w' ⟨⟨hh, es', l', he, _⟩, hb, _⟩ => ⟨⟨hh, by rw [he, ← HR.out, ← hhas]; rfl⟩, hb⟩)); clear hoe hri hln hhas)
    | (go_at_call 45; refine HI.out.mono ?_; rintro e w3 ⟨⟨⟨t1, t2, t3⟩, rfl⟩, hb3⟩; rw [show hdV (t1, t2, t3) = .slice t1 t2 t3 from rfl]; cases R))
  all_goals
    go_ret
    exact ⟨rfl, hbw.trans hb3⟩
theorem hdr_len2 {w : World} {base q2 : Nat} {q1 : Option Addr} {q3 : Nat} {es : List EM} {l : List Ent} (h : OE w base (.slice q1 q2 q3) es l) : q2 = l.length ∧ emsAt w q1 es ∧ ERs w es l := by
  obtain ⟨ad, cp, e⟩ := h.form
  cases e
  exact ⟨h.len, h.at, h.ers⟩
/-- what keeps an entry from being put -/
noncomputable def putE (b : Buf) (y : Ent) : Int := if fineB y = false then 1 else if hasB (entsB b) (plOf y) = true then 10 else if 4096 ≤ (entsB b).length then 2 else 0
set_option maxRecDepth 100000 in
set_option maxHeartbeats 8000000 in
theorem putError_ok (b : Buf) (x : BX) (e : EM) (y : Ent) (w : World) (h : bufAt w b x) (ok : okB b) (hr : ER w e y) (hy : wfE y) (hk : y.key.size ≤ 140737488355328) :
    Calls Try.prog 10 #[bufV b x, e.val] w fun r w' => r = .returned (.int .i64 (putE b y)) ∧ Below w.heap.size w w' := by
  have KE : Hid (∀ w1, Below w.heap.size w w1 → Calls Try.prog 41 #[bufV b x] w1 fun r w' => (∃ (q1 : Option Addr) (q3 : Nat) (f : Bool), r = .returned (.tuple #[.slice q1 (entsB b).length q3, .bool f])) ∧ Below w1.heap.size w1 w') := fun w1 hb =>
    (entries_any b x w1 (bufAt_below h hb) ok.size.1 ok.size.2).mono (fun e w' ⟨⟨⟨q1, q2, q3⟩, es, l, f, he, hoe, hes⟩, hbb⟩ => by
      obtain ⟨e1, _, _⟩ := hdr_len2 (q1 := q1) (q2 := q2) (q3 := q3) hoe
      exact ⟨⟨q1, q3, f, by rw [he, ← (ok.ents hes).2.1.length_eq, ← e1]; rfl⟩, hbb⟩)
  have KF : Hid (∀ w1, Below w.heap.size w w1 → Calls Try.prog 42 #[e.val] w1 fun r w' => r = .returned (.bool (fineB y)) ∧ Below w1.heap.size w1 w') := fun w1 hb => rfine_any e y w1 (hr.below hb) hy hk
  have KT : Hid (∀ w1, Below w.heap.size w w1 → Calls Try.prog 17 #[bufV b x, .string e.key, .int .i64 e.time, .int .i64 e.seq] w1 fun r w' => r = .returned (.bool (hasB (entsB b) (plOf y))) ∧ Below w1.heap.size w1 w') := fun w1 hb => by
    have k := there_ok b x (plOf y) w1 (bufAt_below h hb) ok
    rw [hr.key, hr.time, hr.seq]
    exact k
  obtain ⟨R, hR⟩ : ∃ z, putE b y = z := ⟨_, rfl⟩
  have H1 : Hid (fineB y = false → 1 = R) := fun h => by rw [← hR]; unfold putE; rw [if_pos h]
  have H2 : Hid (fineB y = true → hasB (entsB b) (plOf y) = true → 10 = R) := fun h h2 => by rw [← hR]; unfold putE; rw [h, h2]; simp
  have H3 : Hid (fineB y = true → hasB (entsB b) (plOf y) = false → 4096 ≤ (entsB b).length → 2 = R) := fun h h2 h3 => by rw [← hR]; unfold putE; rw [h, h2]; simp [h3]
  have H4 : Hid (fineB y = true → hasB (entsB b) (plOf y) = false → ¬ 4096 ≤ (entsB b).length → 0 = R) := fun h h2 h3 => by rw [← hR]; unfold putE; rw [h, h2]; simp [h3]
  have hal := ok.all
  rw [hR]
  clear h ok hr hy hk hR
  obtain ⟨FB, hFB⟩ : ∃ z, fineB y = z := ⟨_, rfl⟩
  obtain ⟨TB, hTB⟩ : ∃ z, hasB (entsB b) (plOf y) = z := ⟨_, rfl⟩
  obtain ⟨L, hL⟩ : ∃ z, (entsB b).length = z := ⟨_, rfl⟩
  rw [hFB] at KF H1 H2 H3 H4
  rw [hTB] at KT H2 H3 H4
  rw [hL] at KE H3 H4 hal
  clear hFB hTB hL
  obtain ⟨ek, et, es1, ⟨r1, r2, r3⟩, em⟩ := e
  rw [show EM.val ⟨ek, et, es1, (r1, r2, r3), em⟩ = .agg #[.string ek, .int .i64 et, .int .i64 es1, .slice r1 r2 r3, .bool em] from rfl] at KF ⊢
  dsimp only at KT
  obtain ⟨ra, rc, ⟨⟨m1, m2, m3⟩, ml⟩, rs⟩ := x
  obtain ⟨lim, mem, runs⟩ := b
  rw [show bufV ⟨lim, mem, runs⟩ ⟨ra, rc, ((m1, m2, m3), ml), rs⟩ = .agg #[.int .i64 lim, .slice m1 m2 m3, .slice ra rs.length rc] from rfl] at KE KT ⊢
  obtain ⟨n, hn⟩ : ∃ n, rs.length = n := ⟨_, rfl⟩
  rw [hn] at KE KT ⊢
  clear hn
  have hb0 : Below w.heap.size w ((w.alloc (.cells #[.int .i64 lim, .slice m1 m2 m3, .slice ra n rc] 25)).alloc (.cells #[.string ek, .int .i64 et, .int .i64 es1, .slice r1 r2 r3, .bool em] 28)) := by
    repeat (first | exact Below.refl _ _ | (refine Below.alloc ?_ (by simp <;> omega) _))
  cases FB with
  | false =>
    have HE : Hid (1 = R) := H1.out rfl
    go_enter Try.func10, Try.ntmps10
    go_wp2_with (first
      | (go_at_call 41; refine (KE.out _ hb0).mono ?_; rintro e w2 ⟨⟨q1, q3, f, rfl⟩, hb2⟩; have hbw : Below w.heap.size w w2 := hb0.trans (hb2.mono hb0.size); have a0 : w2.cell? ⟨w.heap.size, 0, none⟩ = some (.int .i64 lim) := cell_later hb2 (by go_simp); have a1 : w2.cell? ⟨w.heap.size, 1, none⟩ = some (.slice m1 m2 m3) := cell_later hb2 (by go_simp); have a2 : w2.cell? ⟨w.heap.size, 2, none⟩ = some (.slice ra n rc) := cell_later hb2 (by go_simp); have d0 : w2.cell? ⟨w.heap.size + 1, 0, none⟩ = some (.string ek) := cell_later hb2 (by go_simp); have d1 : w2.cell? ⟨w.heap.size + 1, 1, none⟩ = some (.int .i64 et) := cell_later hb2 (by go_simp); have d2 : w2.cell? ⟨w.heap.size + 1, 2, none⟩ = some (.int .i64 es1) := cell_later hb2 (by go_simp); have d3 : w2.cell? ⟨w.heap.size + 1, 3, none⟩ = some (.slice r1 r2 r3) := cell_later hb2 (by go_simp); have d4 : w2.cell? ⟨w.heap.size + 1, 4, none⟩ = some (.bool em) := cell_later hb2 (by go_simp))
      | (go_at_call 42; refine (KF.out _ hbw).mono ?_; rintro e w3 ⟨rfl, hb3⟩; have hbx : Below w.heap.size w w3 := hbw.trans (hb3.mono hbw.size); have b0 := cell_later hb3 a0; have b1 := cell_later hb3 a1; have b2 := cell_later hb3 a2; have e0 := cell_later hb3 d0; have e1 := cell_later hb3 d1; have e2 := cell_later hb3 d2)
      | (go_at_call 17; refine (KT.out _ hbx).mono ?_; rintro e w4 ⟨rfl, hb4⟩; have hbz : Below w.heap.size w w4 := hbx.trans (hb4.mono hbx.size)))
    go_ret
    exact ⟨ret_int HE.out, hbx⟩
  | true =>
    cases TB with
    | true =>
      have HE : Hid (10 = R) := H2.out rfl rfl
      go_enter Try.func10, Try.ntmps10
      go_wp2_with (first
        | (go_at_call 41; refine (KE.out _ hb0).mono ?_; rintro e w2 ⟨⟨q1, q3, f, rfl⟩, hb2⟩; have hbw : Below w.heap.size w w2 := hb0.trans (hb2.mono hb0.size); have a0 : w2.cell? ⟨w.heap.size, 0, none⟩ = some (.int .i64 lim) := cell_later hb2 (by go_simp); have a1 : w2.cell? ⟨w.heap.size, 1, none⟩ = some (.slice m1 m2 m3) := cell_later hb2 (by go_simp); have a2 : w2.cell? ⟨w.heap.size, 2, none⟩ = some (.slice ra n rc) := cell_later hb2 (by go_simp); have d0 : w2.cell? ⟨w.heap.size + 1, 0, none⟩ = some (.string ek) := cell_later hb2 (by go_simp); have d1 : w2.cell? ⟨w.heap.size + 1, 1, none⟩ = some (.int .i64 et) := cell_later hb2 (by go_simp); have d2 : w2.cell? ⟨w.heap.size + 1, 2, none⟩ = some (.int .i64 es1) := cell_later hb2 (by go_simp); have d3 : w2.cell? ⟨w.heap.size + 1, 3, none⟩ = some (.slice r1 r2 r3) := cell_later hb2 (by go_simp); have d4 : w2.cell? ⟨w.heap.size + 1, 4, none⟩ = some (.bool em) := cell_later hb2 (by go_simp))
        | (go_at_call 42; refine (KF.out _ hbw).mono ?_; rintro e w3 ⟨rfl, hb3⟩; have hbx : Below w.heap.size w w3 := hbw.trans (hb3.mono hbw.size); have b0 := cell_later hb3 a0; have b1 := cell_later hb3 a1; have b2 := cell_later hb3 a2; have e0 := cell_later hb3 d0; have e1 := cell_later hb3 d1; have e2 := cell_later hb3 d2)
        | (go_at_call 17; refine (KT.out _ hbx).mono ?_; rintro e w4 ⟨rfl, hb4⟩; have hbz : Below w.heap.size w w4 := hbx.trans (hb4.mono hbx.size)))
      go_ret
      exact ⟨ret_int HE.out, hbz⟩
    | false =>
      by_cases h9 : 4096 ≤ L
      · have HE : Hid (2 = R) := H3.out rfl rfl h9
        have h9' : (L : Int) ≥ 4096 := by omega
        go_enter Try.func10, Try.ntmps10
        go_wp2_with (first
          | (go_at_call 41; refine (KE.out _ hb0).mono ?_; rintro e w2 ⟨⟨q1, q3, f, rfl⟩, hb2⟩; have hbw : Below w.heap.size w w2 := hb0.trans (hb2.mono hb0.size); have a0 : w2.cell? ⟨w.heap.size, 0, none⟩ = some (.int .i64 lim) := cell_later hb2 (by go_simp); have a1 : w2.cell? ⟨w.heap.size, 1, none⟩ = some (.slice m1 m2 m3) := cell_later hb2 (by go_simp); have a2 : w2.cell? ⟨w.heap.size, 2, none⟩ = some (.slice ra n rc) := cell_later hb2 (by go_simp); have d0 : w2.cell? ⟨w.heap.size + 1, 0, none⟩ = some (.string ek) := cell_later hb2 (by go_simp); have d1 : w2.cell? ⟨w.heap.size + 1, 1, none⟩ = some (.int .i64 et) := cell_later hb2 (by go_simp); have d2 : w2.cell? ⟨w.heap.size + 1, 2, none⟩ = some (.int .i64 es1) := cell_later hb2 (by go_simp); have d3 : w2.cell? ⟨w.heap.size + 1, 3, none⟩ = some (.slice r1 r2 r3) := cell_later hb2 (by go_simp); have d4 : w2.cell? ⟨w.heap.size + 1, 4, none⟩ = some (.bool em) := cell_later hb2 (by go_simp))
          | (go_at_call 42; refine (KF.out _ hbw).mono ?_; rintro e w3 ⟨rfl, hb3⟩; have hbx : Below w.heap.size w w3 := hbw.trans (hb3.mono hbw.size); have b0 := cell_later hb3 a0; have b1 := cell_later hb3 a1; have b2 := cell_later hb3 a2; have e0 := cell_later hb3 d0; have e1 := cell_later hb3 d1; have e2 := cell_later hb3 d2)
          | (go_at_call 17; refine (KT.out _ hbx).mono ?_; rintro e w4 ⟨rfl, hb4⟩; have hbz : Below w.heap.size w w4 := hbx.trans (hb4.mono hbx.size)))
        go_ret
        exact ⟨ret_int HE.out, hbz⟩
      · have HE : Hid (0 = R) := H4.out rfl rfl h9
        have h9' : ¬ (L : Int) ≥ 4096 := by omega
        go_enter Try.func10, Try.ntmps10
        go_wp2_with (first
          | (go_at_call 41; refine (KE.out _ hb0).mono ?_; rintro e w2 ⟨⟨q1, q3, f, rfl⟩, hb2⟩; have hbw : Below w.heap.size w w2 := hb0.trans (hb2.mono hb0.size); have a0 : w2.cell? ⟨w.heap.size, 0, none⟩ = some (.int .i64 lim) := cell_later hb2 (by go_simp); have a1 : w2.cell? ⟨w.heap.size, 1, none⟩ = some (.slice m1 m2 m3) := cell_later hb2 (by go_simp); have a2 : w2.cell? ⟨w.heap.size, 2, none⟩ = some (.slice ra n rc) := cell_later hb2 (by go_simp); have d0 : w2.cell? ⟨w.heap.size + 1, 0, none⟩ = some (.string ek) := cell_later hb2 (by go_simp); have d1 : w2.cell? ⟨w.heap.size + 1, 1, none⟩ = some (.int .i64 et) := cell_later hb2 (by go_simp); have d2 : w2.cell? ⟨w.heap.size + 1, 2, none⟩ = some (.int .i64 es1) := cell_later hb2 (by go_simp); have d3 : w2.cell? ⟨w.heap.size + 1, 3, none⟩ = some (.slice r1 r2 r3) := cell_later hb2 (by go_simp); have d4 : w2.cell? ⟨w.heap.size + 1, 4, none⟩ = some (.bool em) := cell_later hb2 (by go_simp))
          | (go_at_call 42; refine (KF.out _ hbw).mono ?_; rintro e w3 ⟨rfl, hb3⟩; have hbx : Below w.heap.size w w3 := hbw.trans (hb3.mono hbw.size); have b0 := cell_later hb3 a0; have b1 := cell_later hb3 a1; have b2 := cell_later hb3 a2; have e0 := cell_later hb3 d0; have e1 := cell_later hb3 d1; have e2 := cell_later hb3 d2)
          | (go_at_call 17; refine (KT.out _ hbx).mono ?_; rintro e w4 ⟨rfl, hb4⟩; have hbz : Below w.heap.size w w4 := hbx.trans (hb4.mono hbx.size)))
        go_ret
        exact ⟨ret_int HE.out, hbz⟩
end Go.Proofs.Ytnfknkihiapgiaa.bf

/- The document's PutIn, of a right buffer. -/
namespace Go.Proofs.Ytnfknkihiapgiaa.bf
open Go.ChangeShapes Go.WideShapes Go.ChangeAt Go.RowKit
open vl
set_option linter.unusedVariables false
set_option linter.unusedSimpArgs false
attribute [local go_sem] Oper.semAt_some
/-- what is put into memory -/
theorem PSt_into {W W2 : World} {C NB base : Nat} {x : BX} {b : Buf} {hh : Hdr} {es' : List EM} {l' : List Ent} (h : PSt W C NB base x b) (ho : OE W2 base (hdV hh) es' l') (hl : Left W W2 base (hdV x.m.1)) (hat : ∀ g, (hdV hh).ownBlock = some g → (hdV x.m.1).ownBlock = some g ∨ W.heap.size ≤ g) (hb : Below base W W2) :
    PSt (W2.setCell ⟨NB, 1, none⟩ (hdV hh)) C NB base ⟨x.ra, x.rc, (hh, es'), x.rs⟩ ⟨b.lim, l', b.runs⟩ ∧ Below base W (W2.setCell ⟨NB, 1, none⟩ (hdV hh)) ∧ W2.cell? ⟨NB, 1, none⟩ = some (hdV x.m.1) ∧ W2.frozen? ⟨NB, 1, none⟩ = false := by
  obtain ⟨eN, eC⟩ := PSt_keep h hl.size hl.blk
  have hOB : OB W2 base ⟨x.ra, x.rc, (hh, es'), x.rs⟩ ⟨b.lim, l', b.runs⟩ := OB_mem h.k.ob ho hl.size hl.blk hat
  have t2 := tyAt_of h.k.ty eN
  have c0 := (World.cell?_of_block (a := ⟨NB, 0, none⟩) eN).trans h.k.c0
  have c1 := (World.cell?_of_block (a := ⟨NB, 1, none⟩) eN).trans h.k.c1
  have c2 := (World.cell?_of_block (a := ⟨NB, 2, none⟩) eN).trans h.k.c2
  have f1 := (froz_of (p := ⟨NB, 1, none⟩) eN).trans h.f1
  have f2 := (froz_of (p := ⟨NB, 2, none⟩) eN).trans h.k.f2
  have hne := h.k.ne
  have eO : ∀ u, (W2.setCell ⟨NB, 1, none⟩ u).heap[C]? = W.heap[C]? := fun u => (heap_setCell_other _ _ _ _ (by dsimp only; omega)).trans eC
  refine ⟨⟨⟨OB_set hOB t2 _ _, ?_, World.cell?_setCell_same _ _ _ c1, ?_, ?_, tyAt_set t2 _ _, (World.cell?_of_block (a := ⟨C, 0, none⟩) (eO _)).trans h.k.r0, (World.cell?_of_block (a := ⟨C, 1, none⟩) (eO _)).trans h.k.r1, (World.cell?_of_block (a := ⟨C, 2, none⟩) (eO _)).trans h.k.r2, (froz_of (p := ⟨C, 0, none⟩) (eO _)).trans h.k.g0, (froz_of (p := ⟨C, 1, none⟩) (eO _)).trans h.k.g1, (froz_of (p := ⟨C, 2, none⟩) (eO _)).trans h.k.g2, tyAt_of h.k.rt (eO _), h.k.ne, h.k.up⟩, ?_⟩, ?_, c1, f1⟩
  · dsimp only; go_simp
  · dsimp only; go_simp
  · go_simp
  · go_simp
  · have := h.k.up
    exact hb.setCell (by dsimp only; omega) _
theorem every_any (e : EM) (w : World) : Calls Try.prog 44 #[e.val] w fun r w' => r = .returned (.bool true) ∧ Below w.heap.size w w' := by
  obtain ⟨k1, t1, s1, ⟨a1, b1, c1⟩, m1⟩ := e
  unfold EM.val hdV
  dsimp only
  go_enter Try.func44, Try.ntmps44
  go_wp2
  go_ret
  refine ⟨rfl, ?_⟩
  repeat (first | exact Below.refl _ _ | (refine Below.alloc ?_ (by simp <;> omega) _))
/-- a buffer of one's own, of all entries -/
theorem own_all (b : Buf) (x : BX) (w : World) (h : bufAt w b x) (ok : okB b) :
    Calls Try.prog 43 #[bufV b x, .func (.func 44) #[] #[]] w fun e w' => (∃ x', e = .returned (bufV b x') ∧ OB w' w.heap.size x' b) ∧ Below w.heap.size w w' := by
  have hsm := ok.small
  have k := own_any 44 (enters_of Try.func44 (by kernel_rfl) rfl) #[] (fun _ => true) b x w h hsm.1 hsm.2.1 ok.size.2 (fun e y w1 _ _ _ => every_any e w1)
  rw [keptB_true ok] at k
  exact k
theorem one_new {W : World} {m : Nat} (hm : W.heap.size = m) (a : Value) (h : a.oneCell' = true) (t : TypeId) : ∀ j u, [a][j]? = some u → (W.alloc (.cells #[a] t)).cell? ((⟨m, 0, none⟩ : Addr).add j) = some u := by
  subst hm
  exact cell_one_new _ _ h _
set_option maxRecDepth 100000 in
set_option maxHeartbeats 8000000 in
theorem putIn_ok (b : Buf) (x : BX) (e : EM) (y : Ent) (w : World) (h : bufAt w b x) (ok : okB b) (hr : ER w e y) (hrow : y.row.length ≤ 2000000) (hh : hasB (entsB b) (plOf y) = false) :
    Calls Try.prog 11 #[bufV b x, e.val] w fun r w' => (∃ x' l', r = .returned (bufV (putB b l') x') ∧ l'.Perm (b.mem ++ [y]) ∧ Rise l' ∧ OB w' w.heap.size x' (putB b l')) ∧ Below w.heap.size w w' := by
  have KO : Hid (∀ w1, Below w.heap.size w w1 → Calls Try.prog 43 #[bufV b x, .func (.func 44) #[] #[]] w1 fun e w' => (∃ x', e = .returned (bufV b x') ∧ OB w' w1.heap.size x' b) ∧ Below w1.heap.size w1 w') := fun w1 hb => own_all b x w1 (bufAt_below h hb) ok
  have hnm : hasB b.mem (plOf y) = false := by
    rw [ents_eq, has_app] at hh
    simpa using (Bool.or_eq_false_iff.1 hh).1
  have hsm := ok.small
  have hml := hsm.1 b.mem (List.mem_cons_self ..)
  have hrl := hsm.2.1
  have hri : Rise b.mem := ok.rises (List.mem_cons_self ..)
  have KI : Hid (∀ base ad cap es w1, base = w.heap.size + 1 + 1 → OE w1 base (.slice ad es.length cap) es b.mem → Below w.heap.size w w1 → Calls Try.prog 45 #[.slice ad es.length cap, e.val] w1 fun r w' => (∃ (hh : Hdr) (es' : List EM) (l' : List Ent), r = .returned (.tuple #[hdV hh, .bool true]) ∧ OE w' base (hdV hh) es' l' ∧ l'.Perm (b.mem ++ [y]) ∧ Rise l' ∧ (∀ g, (hdV hh).ownBlock = some g → (Value.slice ad es.length cap).ownBlock = some g ∨ w1.heap.size ≤ g)) ∧ Below base w1 w' ∧ Left w1 w' base (.slice ad es.length cap)) := fun base ad cap es w1 hbs hoe hb =>
    (into_any base ad cap es b.mem e y w1 hoe (fun w2 hb2 => hr.below (hb.trans (hb2.mono (by omega)))) hri hml hrow).mono (fun r w' ⟨⟨hh, es', l', h1, h2, _, h4, h5⟩, h6, h7⟩ => ⟨⟨hh, es', l', by rw [h1, hnm]; rfl, h2, (h4 hnm).1.trans (List.perm_append_singleton y b.mem).symm, (h4 hnm).2, h5⟩, h6, h7⟩)
  have hal := ok.all
  have HPB : Hid (∀ l', putB b l' = if b.lim < (l'.length : Int) then ⟨b.lim, [], b.runs ++ [l']⟩ else ⟨b.lim, l', b.runs⟩) := fun l' => rfl
  clear h ok hr hrow hh hnm hsm hri hal
  obtain ⟨ek, et, es1, ⟨r1, r2, r3⟩, em⟩ := e
  rw [show EM.val ⟨ek, et, es1, (r1, r2, r3), em⟩ = .agg #[.string ek, .int .i64 et, .int .i64 es1, .slice r1 r2 r3, .bool em] from rfl] at KI ⊢
  obtain ⟨BV, hBV⟩ : ∃ z, bufV b x = z := ⟨_, rfl⟩
  have hBV2 : BV = .agg #[.int .i64 b.lim, hdV x.m.1, .slice x.ra x.rs.length x.rc] := by rw [← hBV]; rfl
  rw [hBV] at KO ⊢
  clear hBV
  subst hBV2
  obtain ⟨⟨m1, m2, m3⟩, hm⟩ : ∃ z, x.m.1 = z := ⟨_, rfl⟩
  rw [hm] at KO ⊢
  rw [show hdV (m1, m2, m3) = .slice m1 m2 m3 from rfl] at KO ⊢
  obtain ⟨ra, hra⟩ : ∃ z, x.ra = z := ⟨_, rfl⟩
  obtain ⟨rc, hrc⟩ : ∃ z, x.rc = z := ⟨_, rfl⟩
  obtain ⟨n, hn⟩ : ∃ z, x.rs.length = z := ⟨_, rfl⟩
  rw [hra, hrc, hn] at KO ⊢
  obtain ⟨lim, hlim⟩ : ∃ z, b.lim = z := ⟨_, rfl⟩
  rw [hlim] at KO ⊢
  clear hra hrc hn hm
  have HLIM : Hid (b.lim = lim) := hlim
  clear hlim
  have hb0 : Below w.heap.size w (((w.alloc (.cells #[.int .i64 lim, .slice m1 m2 m3, .slice ra n rc] 25)).alloc (.cells #[.string ek, .int .i64 et, .int .i64 es1, .slice r1 r2 r3, .bool em] 28)).alloc (.cells #[.int .i64 0, .slice none 0 0, .slice none 0 0] 25)) := by
    repeat (first | exact Below.refl _ _ | (refine Below.alloc ?_ (by simp <;> omega) _))
  have NBV := nb_alloc ((w.alloc (.cells #[.int .i64 lim, .slice m1 m2 m3, .slice ra n rc] 25)).alloc (.cells #[.string ek, .int .i64 et, .int .i64 es1, .slice r1 r2 r3, .bool em] 28))
  rw [World.size_alloc, World.size_alloc] at NBV
  have HNB : Hid (nbAt (((w.alloc (.cells #[.int .i64 lim, .slice m1 m2 m3, .slice ra n rc] 25)).alloc (.cells #[.string ek, .int .i64 et, .int .i64 es1, .slice r1 r2 r3, .bool em] 28)).alloc (.cells #[.int .i64 0, .slice none 0 0, .slice none 0 0] 25)) (w.heap.size + 1 + 1)) := NBV
  clear NBV
  have hVs : (((w.alloc (.cells #[.int .i64 lim, .slice m1 m2 m3, .slice ra n rc] 25)).alloc (.cells #[.string ek, .int .i64 et, .int .i64 es1, .slice r1 r2 r3, .bool em] 28)).alloc (.cells #[.int .i64 0, .slice none 0 0, .slice none 0 0] 25)).heap.size = w.heap.size + 1 + 1 + 1 := by simp
  go_enter Try.func11, Try.ntmps11
  go_wp2_with fail
  refine (KO.out _ hb0).mono ?_
  rintro e w2 ⟨⟨x', rfl, hob⟩, hb2⟩
  obtain ⟨ra', rc', ⟨⟨a1, a2, a3⟩, ml'⟩, rs'⟩ := x'
  have ha2 : a2 = ml'.length := by
    obtain ⟨ad, cp, hf⟩ := hob.mem.form
    unfold hdV at hf
    injection hf
  subst ha2
  rw [show bufV b ⟨ra', rc', ((a1, ml'.length, a3), ml'), rs'⟩ = .agg #[.int .i64 b.lim, .slice a1 ml'.length a3, .slice ra' rs'.length rc'] from rfl, HLIM.out]
  have nb2 := nb_below hb2 HNB.out
  have PS0 := startP nb2 (OB_mono hob (base' := w.heap.size + 1 + 1) (by omega)) (Nat.le_refl _)
  unfold hdV at PS0
  dsimp only at PS0
  rw [HLIM.out] at PS0
  have hrn : rs'.length ≤ 100000 := by rw [hob.rlen]; exact hrl
  have hmn : ml'.length ≤ 100000 := by rw [hob.mem.len]; exact hml
  have HML : Hid (ml'.length = b.mem.length) := hob.mem.len
  have d0 : w2.cell? ⟨w.heap.size + 1, 0, none⟩ = some (.string ek) := cell_later hb2 (by go_simp)
  have d1 : w2.cell? ⟨w.heap.size + 1, 1, none⟩ = some (.int .i64 et) := cell_later hb2 (by go_simp)
  have d2 : w2.cell? ⟨w.heap.size + 1, 2, none⟩ = some (.int .i64 es1) := cell_later hb2 (by go_simp)
  have d3 : w2.cell? ⟨w.heap.size + 1, 3, none⟩ = some (.slice r1 r2 r3) := cell_later hb2 (by go_simp)
  have d4 : w2.cell? ⟨w.heap.size + 1, 4, none⟩ = some (.bool em) := cell_later hb2 (by go_simp)
  have hbw : Below w.heap.size w w2 := hb0.trans (hb2.mono hb0.size)
  obtain ⟨mn, hmn0⟩ : ∃ z, ml'.length = z := ⟨_, rfl⟩
  have HMN : Hid (ml'.length = mn) := hmn0
  obtain ⟨rn, hrn0⟩ : ∃ z, rs'.length = z := ⟨_, rfl⟩
  have HRN : Hid (rs'.length = rn) := hrn0
  rw [hmn0, hrn0] at PS0
  have HPS : Hid (PSt (w2.alloc (.cells #[.int .i64 lim, .slice a1 mn a3, .slice ra' rn rc'] 25)) (w.heap.size + 1 + 1) w2.heap.size (w.heap.size + 1 + 1) ⟨ra', rc', ((a1, ml'.length, a3), ml'), rs'⟩ b) := by rw [hmn0]; exact PS0
  rw [hmn0] at hmn
  rw [hrn0] at hrn
  rw [hmn0, hrn0]
  have hbV : Below w.heap.size w (w2.alloc (.cells #[.int .i64 lim, .slice a1 mn a3, .slice ra' rn rc'] 25)) := hbw.alloc hbw.size _
  have lw2 : w.heap.size + 1 < w2.heap.size := World.block_lt_of_cell? _ _ d0
  clear hob hb2 PS0 nb2 hmn0 hrn0
  go_wp2_with fail
  have hoe := HPS.out.k.ob.mem
  have KX := KI.out _ a1 a3 ml' _ rfl hoe hbV
  rw [HMN.out] at KX
  refine KX.mono ?_
  rintro e w3 ⟨⟨⟨t1, t2, t3⟩, es', l', rfl, ho3, hp3, hr3, hat3⟩, hb3, hl3⟩
  have ht2 : t2 = l'.length := by
    obtain ⟨ad, cp, hf⟩ := ho3.form
    unfold hdV at hf
    injection hf with _ e2 _
    exact Eq.trans e2 ho3.len
  have hln : l'.length = mn + 1 := by rw [hp3.length_eq, List.length_append, ← HML.out, HMN.out]; rfl
  rw [ht2, hln] at ho3 hat3 ⊢
  clear ht2
  have PSm := HPS.out
  rw [HMN.out] at PSm
  obtain ⟨P2, B2, q1, qf1⟩ := PSt_into PSm ho3 hl3 hat3 hb3
  obtain ⟨eN, eC⟩ := PSt_keep PSm hl3.size hl3.blk
  have q0 := (cell_blk eN 0).trans HPS.out.k.c0
  have q2 := (cell_blk eN 2).trans HPS.out.k.c2
  have qf2 := (frozen_blk eN 2).trans HPS.out.k.f2
  have r0 := (cell_blk eC 0).trans HPS.out.k.r0
  have r1' := (cell_blk eC 1).trans HPS.out.k.r1
  have r2' := (cell_blk eC 2).trans HPS.out.k.r2
  have g0 := (frozen_blk eC 0).trans HPS.out.k.g0
  have g1 := (frozen_blk eC 1).trans HPS.out.k.g1
  have g2 := (frozen_blk eC 2).trans HPS.out.k.g2
  have hne := HPS.out.k.ne
  unfold hdV at q1 P2 B2 ⊢
  dsimp only at q0 q1 q2 P2 B2 ⊢
  rw [HLIM.out] at q0
  rw [HRN.out] at q2
  have HP2 : Hid _ := P2
  have hbE : Below w.heap.size w (w3.setCell ⟨w2.heap.size, 1, none⟩ (.slice t1 (mn + 1) t3)) := hbV.trans (B2.mono (by omega))
  have HLN : Hid (l'.length = mn + 1) := hln
  have lN3 : w2.heap.size < w3.heap.size := World.block_lt_of_cell? _ _ q0
  have lC3 : w.heap.size + 1 + 1 < w3.heap.size := World.block_lt_of_cell? _ _ r0
  clear hln ho3 hat3 hl3 P2 hoe KX eN eC PSm
  by_cases hlim : lim < (mn : Int) + 1
  · have hput : putB b l' = ⟨b.lim, [], b.runs ++ [l']⟩ := by rw [HPB.out, if_pos (by rw [HLN.out, HLIM.out]; push_cast; omega)]
    have HPT : Hid (putB b l' = ⟨b.lim, [], b.runs ++ [l']⟩) := hput
    obtain ⟨i0, hi0, hz0, hz1, hz2⟩ := info_parts infoH
    have HI : Hid (Try.prog.info? 22 = some i0 ∧ i0.zero = some (.slice none 0 0) ∧ i0.size = 1 ∧ i0.bytes = 24) := ⟨hi0, hz0, hz1, hz2⟩
    have HOH : Hid ((w3.setCell ⟨w2.heap.size, 1, none⟩ (.slice t1 (mn + 1) t3)).ownsRow (w.heap.size + 1 + 1) 22 1 (.slice ra' rn rc') rn (rs'.map fun p => hdV p.1)) := by
      have k := HP2.out.k.ob.hds
      dsimp only at k
      rw [HRN.out] at k
      exact k
    clear hi0 hz0 hz1 hz2 hput
    go_wp2_with (at_builtin; refine wpList_append_own _ rfl (.tmp 23) (.tmp 26) 23 rfl (w.heap.size + 1 + 1) 22 i0 (.slice none 0 0) 1 24 Try.underlying23 HI.out.1 HI.out.2.1 HI.out.2.2.1 HI.out.2.2.2 rfl (by decide) _ _ _ rfl (World.ownsRow.alloc HOH.out _) ⟨w3.heap.size, 0, none⟩ 1 1 [.slice t1 (mn + 1) t3] rfl rfl (one_new (by simp [World.setCell]) _ rfl _) (by intro u hu; simp at hu; rcases hu with rfl; rfl) (by unfold maxLen; omega) (by omega) (by simp; omega) ?_; intro v12 w12 hown12 hgrow12 hnil12; obtain ⟨g12, c12, hv12⟩ := own_some hown12; subst hv12; have hm2 := PSt_mid2 HP2.out (by dsimp only; rw [HRN.out]; exact hgrow12); obtain ⟨_, fN, fC, _⟩ := hm2; have aa0 := (cell_blk fN 0).trans HP2.out.k.c0; have aa1 := (cell_blk fN 1).trans HP2.out.k.c1; have aa2 := (cell_blk fN 2).trans HP2.out.k.c2; dsimp only at aa0 aa1 aa2; rw [HLIM.out] at aa0; rw [HRN.out] at aa2; have af1 := (frozen_blk fN 1).trans HP2.out.f1; have af2 := (frozen_blk fN 2).trans HP2.out.k.f2; have ac0 := (cell_blk fC 0).trans HP2.out.k.r0; have ac1 := (cell_blk fC 1).trans HP2.out.k.r1; have ac2 := (cell_blk fC 2).trans HP2.out.k.r2; have ag0 := (frozen_blk fC 0).trans HP2.out.k.g0; have ag1 := (frozen_blk fC 1).trans HP2.out.k.g1; have ag2 := (frozen_blk fC 2).trans HP2.out.k.g2; unfold hdV at aa1; dsimp only at aa1)
    have HMV := PSt_move (g := g12) (cap2 := c12) HP2.out (by dsimp only; rw [HRN.out]; exact hown12) (by dsimp only; rw [HRN.out]; exact hgrow12)
    dsimp only at HMV
    rw [HRN.out] at HMV
    have hbF := hbE.trans (HMV.2.mono (show w.heap.size ≤ w.heap.size + 1 + 1 by omega))
    refine bodyPost_ret (v := .agg #[.int .i64 lim, .slice none 0 0, .slice (some ⟨g12, 0, none⟩) (rn + 1) c12]) (by simp [results, Try.results11, go_sem, ac0, ac1, ac2, hne]) rfl ⟨⟨⟨some ⟨g12, 0, none⟩, c12, ((none, 0, 0), []), rs' ++ [((t1, mn + 1, t3), es')]⟩, l', ?_, hp3, hr3, ?_⟩, ?_⟩
    · rw [HPT.out]; unfold bufV hdV; dsimp only; rw [List.length_append, HRN.out, HLIM.out]; rfl
    · rw [HPT.out]; exact OB_mono (OB_set3 HMV.1.k.ob HMV.1.k.rt _ _ _) (by omega)
    · exact ((hbF.setCell (by dsimp only; omega) _).setCell (by dsimp only; omega) _).setCell (by dsimp only; omega) _
  · have hput : putB b l' = ⟨b.lim, l', b.runs⟩ := by rw [HPB.out, if_neg (by rw [HLN.out, HLIM.out]; push_cast; omega)]
    go_wp2
    refine bodyPost_ret (v := .agg #[.int .i64 lim, .slice t1 (mn + 1) t3, .slice ra' rn rc']) (by simp [results, Try.results11, go_sem, r0, r1', r2']) rfl ⟨⟨⟨ra', rc', ((t1, mn + 1, t3), es'), rs'⟩, l', ?_, hp3, hr3, ?_⟩, ?_⟩
    · rw [hput]; unfold bufV hdV; dsimp only; rw [HRN.out, HLIM.out]
    · rw [hput]; exact OB_mono (OB_set3 HP2.out.k.ob HP2.out.k.rt _ _ _) (by omega)
    · exact ((hbE.setCell (by dsimp only; omega) _).setCell (by dsimp only; omega) _).setCell (by dsimp only; omega) _
end Go.Proofs.Ytnfknkihiapgiaa.bf

/- The document's at and TakeIn, of a right buffer. -/
namespace Go.Proofs.Ytnfknkihiapgiaa.bf
open Go.ChangeShapes Go.WideShapes Go.ChangeAt Go.RowKit
open vl
set_option linter.unusedVariables false
set_option linter.unusedSimpArgs false
attribute [local go_sem] Oper.semAt_some
set_option maxHeartbeats 4000000 in
theorem at_any (e : EM) (p : Plc) (w : World) :
    Calls Try.prog 50 #[e.val, .string p.1, .int .i64 p.2.1, .int .i64 p.2.2] w fun r w' => r = .returned (.bool (decide ((e.key, e.time, e.seq) = p))) ∧ Below w.heap.size w w' := by
  obtain ⟨ek, et, es, ⟨r1, r2, r3⟩, em⟩ := e
  obtain ⟨pk, pt, ps⟩ := p
  unfold EM.val hdV
  dsimp only
  obtain ⟨R, hR⟩ : ∃ z, decide ((ek, et, es) = (pk, pt, ps)) = z := ⟨_, rfl⟩
  rw [hR]
  by_cases t1 : ek = pk
  · subst t1
    by_cases t2 : et = pt
    · subst t2
      by_cases t3 : es = ps
      · subst t3
        have HR : Hid (R = true) := by show R = true; rw [← hR]; simp
        clear hR
        go_enter Try.func50, Try.ntmps50
        go_wp2
        go_ret
        exact ⟨ret_bool HR.out.symm, (Below.refl _ _).alloc (Nat.le_refl _) _⟩
      · have HR : Hid (R = false) := by show R = false; rw [← hR]; simp [t3]
        have t3' : (es == ps) = false := by simpa using t3
        clear hR
        go_enter Try.func50, Try.ntmps50
        go_wp2
        go_ret
        exact ⟨ret_bool HR.out.symm, (Below.refl _ _).alloc (Nat.le_refl _) _⟩
    · have HR : Hid (R = false) := by show R = false; rw [← hR]; simp [t2]
      have t2' : (et == pt) = false := by simpa using t2
      clear hR
      go_enter Try.func50, Try.ntmps50
      go_wp2
      go_ret
      exact ⟨ret_bool HR.out.symm, (Below.refl _ _).alloc (Nat.le_refl _) _⟩
  · have HR : Hid (R = false) := by show R = false; rw [← hR]; simp [t1]
    have t1' := keys_ne t1
    have t1'' : (ek.toList == pk.toList) = false := by simpa using t1'
    clear hR t1'
    go_enter Try.func50, Try.ntmps50
    go_wp2
    go_ret
    exact ⟨ret_bool HR.out.symm, (Below.refl _ _).alloc (Nat.le_refl _) _⟩
set_option maxHeartbeats 4000000 in
theorem rtake1_any (e : EM) (p : Plc) (A B C : Nat) (w : World) (h0 : w.cell? ⟨A, 0, none⟩ = some (.string p.1)) (h1 : w.cell? ⟨B, 0, none⟩ = some (.int .i64 p.2.1)) (h2 : w.cell? ⟨C, 0, none⟩ = some (.int .i64 p.2.2)) :
    Calls Try.prog 51 #[e.val, .pointer (some ⟨A, 0, none⟩), .pointer (some ⟨B, 0, none⟩), .pointer (some ⟨C, 0, none⟩)] w fun r w' => r = .returned (.bool (!decide ((e.key, e.time, e.seq) = p))) ∧ Below w.heap.size w w' := by
  have KA : Hid (∀ w1, Calls Try.prog 50 #[e.val, .string p.1, .int .i64 p.2.1, .int .i64 p.2.2] w1 fun r w' => r = .returned (.bool (decide ((e.key, e.time, e.seq) = p))) ∧ Below w1.heap.size w1 w') := fun w1 => at_any e p w1
  obtain ⟨R, hR⟩ : ∃ z, decide ((e.key, e.time, e.seq) = p) = z := ⟨_, rfl⟩
  rw [hR] at KA ⊢
  clear hR
  obtain ⟨ek, et, es, ⟨r1, r2, r3⟩, em⟩ := e
  obtain ⟨pk, pt, ps⟩ := p
  unfold EM.val hdV at KA ⊢
  dsimp only at KA h0 h1 h2 ⊢
  have lA : A < w.heap.size := World.block_lt_of_cell? _ _ h0
  have lB : B < w.heap.size := World.block_lt_of_cell? _ _ h1
  have lC : C < w.heap.size := World.block_lt_of_cell? _ _ h2
  cases R
  all_goals
    go_enter Try.func51, Try.ntmps51
    go_wp2_with (go_at_call 50; refine (KA.out _).mono ?_; rintro e w2 ⟨rfl, hb2⟩)
    go_ret
    exact ⟨rfl, ((Below.refl _ _).alloc (Nat.le_refl _) _).trans (hb2.mono (by simp))⟩
set_option maxHeartbeats 4000000 in
theorem takeIn_ok (b : Buf) (x : BX) (p : Plc) (w : World) (h : bufAt w b x) (ok : okB b) :
    Calls Try.prog 19 #[bufV b x, .string p.1, .int .i64 p.2.1, .int .i64 p.2.2] w fun e w' => (∃ x', e = .returned (bufV (keptB (notAt p) b) x') ∧ OB w' w.heap.size x' (keptB (notAt p) b)) ∧ Below w.heap.size w w' := by
  have hsm := ok.small
  have KE : Hid (∀ w1, Below w.heap.size w w1 → w1.cell? ⟨w.heap.size + 1, 0, none⟩ = some (.string p.1) → w1.cell? ⟨w.heap.size + 1 + 1, 0, none⟩ = some (.int .i64 p.2.1) → w1.cell? ⟨w.heap.size + 1 + 1 + 1, 0, none⟩ = some (.int .i64 p.2.2) → Calls Try.prog 43 #[bufV b x, .func (.func 51) #[] #[.pointer (some ⟨w.heap.size + 1, 0, none⟩), .pointer (some ⟨w.heap.size + 1 + 1, 0, none⟩), .pointer (some ⟨w.heap.size + 1 + 1 + 1, 0, none⟩)]] w1 fun e w' => (∃ x', e = .returned (bufV (keptB (notAt p) b) x') ∧ OB w' w1.heap.size x' (keptB (notAt p) b)) ∧ Below w1.heap.size w1 w') := fun w1 hb c0 c1 c2 =>
    own_any 51 (enters_of Try.func51 (by kernel_rfl) rfl) #[.pointer (some ⟨w.heap.size + 1, 0, none⟩), .pointer (some ⟨w.heap.size + 1 + 1, 0, none⟩), .pointer (some ⟨w.heap.size + 1 + 1 + 1, 0, none⟩)] (notAt p) b x w1 (bufAt_below h hb) hsm.1 hsm.2.1 ok.size.2 (fun e y w2 her _ hb2 => by
      have := rtake1_any e p (w.heap.size + 1) (w.heap.size + 1 + 1) (w.heap.size + 1 + 1 + 1) w2 (cell_later hb2 c0) (cell_later hb2 c1) (cell_later hb2 c2)
      rw [her.key, her.time, her.seq] at this
      exact this)
  clear h hsm ok
  obtain ⟨lim', hlim⟩ : ∃ z, (keptB (notAt p) b) = z := ⟨_, rfl⟩
  rw [hlim] at KE ⊢
  clear hlim
  obtain ⟨pk, pt, ps⟩ := p
  obtain ⟨ra, rc, ⟨⟨m1, m2, m3⟩, ml⟩, rs⟩ := x
  obtain ⟨lim, mem, runs⟩ := b
  rw [show bufV ⟨lim, mem, runs⟩ ⟨ra, rc, ((m1, m2, m3), ml), rs⟩ = .agg #[.int .i64 lim, .slice m1 m2 m3, .slice ra rs.length rc] from rfl] at KE ⊢
  dsimp only at KE ⊢
  obtain ⟨n, hn⟩ : ∃ n, rs.length = n := ⟨_, rfl⟩
  rw [hn] at KE ⊢
  clear hn
  have hb0 : Below w.heap.size w (((((w.alloc (.cells #[.int .i64 lim, .slice m1 m2 m3, .slice ra n rc] 25)).alloc (.cells #[.string pk] 9)).alloc (.cells #[.int .i64 pt] 3)).alloc (.cells #[.int .i64 ps] 3)).alloc (.cells #[.int .i64 0, .slice none 0 0, .slice none 0 0] 25)) := by
    repeat (first | exact Below.refl _ _ | (refine Below.alloc ?_ (by simp <;> omega) _))
  have NBV := nb_alloc ((((w.alloc (.cells #[.int .i64 lim, .slice m1 m2 m3, .slice ra n rc] 25)).alloc (.cells #[.string pk] 9)).alloc (.cells #[.int .i64 pt] 3)).alloc (.cells #[.int .i64 ps] 3))
  rw [World.size_alloc, World.size_alloc, World.size_alloc, World.size_alloc] at NBV
  have HNB : Hid _ := NBV
  clear NBV
  go_enter Try.func19, Try.ntmps19
  go_wp2_with (go_at_call 43; refine (KE.out _ hb0 (by go_simp) (by go_simp) (by go_simp)).mono ?_; rintro e w3 ⟨⟨⟨ra', rc', ⟨⟨a1, a2, a3⟩, ml'⟩, rs'⟩, rfl, hob⟩, hb3⟩; rw [show bufV lim' ⟨ra', rc', ((a1, a2, a3), ml'), rs'⟩ = .agg #[.int .i64 lim'.lim, .slice a1 a2 a3, .slice ra' rs'.length rc'] from rfl]; have HNB3 : Hid (nbAt w3 (w.heap.size + 1 + 1 + 1 + 1)) := nb_below hb3 HNB.out; obtain ⟨n0, n1, n2, o0, o1, o2, n3⟩ := HNB3.out)
  have hbx : Below w.heap.size w w3 := hb0.trans (hb3.mono hb0.size)
  refine bodyPost_ret (v := .agg #[.int .i64 lim'.lim, .slice a1 a2 a3, .slice ra' rs'.length rc']) (by simp [results, Try.results19, go_sem, n0, n1, n2]) rfl ⟨⟨⟨ra', rc', ((a1, a2, a3), ml'), rs'⟩, rfl, ?_⟩, ((hbx.setCell (by dsimp only; omega) _).setCell (by dsimp only; omega) _).setCell (by dsimp only; omega) _⟩
  exact OB_set3 (OB_mono hob hb0.size) n3 _ _ _
end Go.Proofs.Ytnfknkihiapgiaa.bf
