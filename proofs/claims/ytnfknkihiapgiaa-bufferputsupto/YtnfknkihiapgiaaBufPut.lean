/- Put, where all is well. -/
import Derived.Test.YtnfknkihiapgiaaBufPut2
import Derived.Deep.RegionLaw
namespace Go.Proofs.Ytnfknkihiapgiaa.bf
open Go.ChangeShapes Go.WideShapes Go.ChangeAt Go.RowKit
open vl
set_option linter.unusedVariables false
set_option linter.unusedSimpArgs false
attribute [local go_sem] Oper.semAt_some
/-- the buffer that Put tells: memory's entries l, or a run of them -/
def putB (b : Buf) (l : List Ent) : Buf := if b.lim < (l.length : Int) then ⟨b.lim, [], b.runs ++ [l]⟩ else ⟨b.lim, l, b.runs⟩
set_option maxRecDepth 100000 in
set_option maxHeartbeats 8000000 in
theorem put_ok (b : Buf) (x : BX) (e : EM) (y : Ent) (w : World) (h : bufAt w b x) (hw : ∀ y ∈ entsB b, wfE y ∧ wfP (plOf y)) (hs : (entsB b).length ≤ 4611686018427387904) (he : errB b = 0) (hr : ER w e y) (hy : wfE y) (hf : fineB y = true) (hh : hasB (entsB b) (plOf y) = false) (hm : (entsB b).length ≠ 4096) :
    Calls Try.prog 8 #[bufV b x, e.val] w fun r w' => (∃ x' l', r = .returned (.tuple #[bufV (putB b l') x', .int .i64 0]) ∧ l'.Perm (b.mem ++ [y]) ∧ byPl l' ∧ OB w' w.heap.size x' (putB b l')) ∧ Below w.heap.size w w' := by
  have KC : Hid (∀ w1, Below w.heap.size w w1 → Calls Try.prog 14 #[bufV b x] w1 fun e w' => e = .returned (.int .i64 0) ∧ Below w1.heap.size w1 w') := fun w1 hb => by
    have := check_any b x w1 (bufAt_below h hb) hw hs
    rwa [he] at this
  have KE : Hid (∀ w1, Below w.heap.size w w1 → Calls Try.prog 30 #[e.val] w1 fun r w' => r = .returned (.bool true) ∧ Below w1.heap.size w1 w') := fun w1 hb => by
    have := entryRight_any e y w1 (hr.below hb) hy
    rwa [hf] at this
  have KP : Hid (∀ w1, Calls Try.prog 32 #[e.val] w1 fun r w' => r = .returned (.agg #[.string e.key, .int .i64 e.time, .int .i64 e.seq]) ∧ Below w1.heap.size w1 w') := fun w1 => placeOf_any e w1
  have KH : Hid (∀ w1, Below w.heap.size w w1 → Calls Try.prog 31 #[bufV b x, .agg #[.string e.key, .int .i64 e.time, .int .i64 e.seq]] w1 fun r w' => r = .returned (.bool false) ∧ Below w1.heap.size w1 w') := fun w1 hb => by
    have k := has_any b x (plOf y) w1 (bufAt_below h hb)
    rw [hh] at k
    unfold plcV plOf at k
    rw [← hr.key, ← hr.time, ← hr.seq] at k
    exact k
  have KS : Hid (∀ w1, Below w.heap.size w w1 → Calls Try.prog 33 #[bufV b x] w1 fun r w' => r = .returned (.int .i64 (entsB b).length) ∧ Below w1.heap.size w1 w') := fun w1 hb => size_any b x w1 (bufAt_below h hb) hs
  have hok := okB_of he
  have hsm := hok.small
  have hml := hsm.1 b.mem (List.mem_cons_self ..)
  have KK : Hid (∀ w1, Below w.heap.size w w1 → Calls Try.prog 34 #[bufV b x, .func (.func 35) #[] #[]] w1 fun r w' => (∃ x', r = .returned (bufV b x') ∧ OB w' w1.heap.size x' b) ∧ Below w1.heap.size w1 w') := fun w1 hb => by
    have k := kept_any 35 (enters_of Try.func35 (by kernel_rfl) rfl) #[] (fun _ => true) b x w1 (bufAt_below h hb) hsm.1 hsm.2.1 hsm.2.2 (fun e y w2 _ _ _ => by rw [Array.append_empty]; exact always_any e w2)
    rw [keptB_true hok] at k
    exact k
  have hyr : y.row.length ≤ 1000000 := by
    have h1 := (fineB_iff.1 hf).2.1
    unfold keyErr at h1
    by_cases h8 : 8 < y.row.length
    · rw [if_pos h8] at h1; cases h1
    · omega
  have KF : Hid (∀ w1, Below w.heap.size w w1 → Calls Try.prog 36 #[e.val] w1 fun r w' => (∃ ad c, r = .returned (e.to (ad, y.row.length, c)).val ∧ ownV w' w1.heap.size (.slice ad y.row.length c) y.row) ∧ Below w1.heap.size w1 w') := fun w1 hb => fresh_any e y w1 (hr.below hb) hyr
  have HER : Hid (ER w e y) := hr
  obtain ⟨N, hN⟩ : ∃ z, (entsB b).length = z := ⟨_, rfl⟩
  rw [hN] at KS hm
  have hm' : ((N : Int) == 4096) = false := by simpa using (fun h => hm (by omega) : ¬ (N : Int) = 4096)
  have HML : Hid (b.mem.length ≤ 100000) := hml
  have hnr : b.runs.length ≤ 100000 := hsm.2.1
  have HNR : Hid (b.runs.length ≤ 100000) := hnr
  clear h hw hs he hr hy hf hh hm hok hsm hml hN hyr hnr
  obtain ⟨ra, rc, ⟨⟨m1, m2, m3⟩, ml⟩, rs⟩ := x
  obtain ⟨lim, mem, runs⟩ := b
  obtain ⟨ek, et, es, ⟨r1, r2, r3⟩, em⟩ := e
  rw [show bufV ⟨lim, mem, runs⟩ ⟨ra, rc, ((m1, m2, m3), ml), rs⟩ = .agg #[.int .i64 lim, .slice m1 m2 m3, .slice ra rs.length rc] from rfl] at KC KH KS KK ⊢
  unfold EM.val EM.to hdV at KF
  unfold EM.val hdV at KE KP ⊢
  dsimp only at KE KP KH KF ⊢
  obtain ⟨n, hn⟩ : ∃ n, rs.length = n := ⟨_, rfl⟩
  rw [hn] at KC KH KS KK ⊢
  clear hn
  obtain ⟨rl, hrl⟩ : ∃ z, y.row.length = z := ⟨_, rfl⟩
  have HRL : Hid (y.row.length = rl) := hrl
  rw [hrl] at KF
  clear hrl
  have hb0 : Below w.heap.size w (((w.alloc (.cells #[.int .i64 lim, .slice m1 m2 m3, .slice ra n rc] 25)).alloc (.cells #[.string ek, .int .i64 et, .int .i64 es, .slice r1 r2 r3, .bool em] 28)).alloc (.cells #[.int .i64 0, .slice none 0 0, .slice none 0 0] 25)) := by
    repeat (first | exact Below.refl _ _ | (refine Below.alloc ?_ (by simp <;> omega) _))
  have NBV := nb_alloc ((w.alloc (.cells #[.int .i64 lim, .slice m1 m2 m3, .slice ra n rc] 25)).alloc (.cells #[.string ek, .int .i64 et, .int .i64 es, .slice r1 r2 r3, .bool em] 28))
  rw [World.size_alloc, World.size_alloc] at NBV
  have HNB : Hid (nbAt (((w.alloc (.cells #[.int .i64 lim, .slice m1 m2 m3, .slice ra n rc] 25)).alloc (.cells #[.string ek, .int .i64 et, .int .i64 es, .slice r1 r2 r3, .bool em] 28)).alloc (.cells #[.int .i64 0, .slice none 0 0, .slice none 0 0] 25)) (w.heap.size + 1 + 1)) := NBV
  clear NBV
  go_enter Try.func8, Try.ntmps8
  go_wp2_with (first
    | (go_at_call 14; refine (KC.out _ hb0).mono ?_; rintro e w2 ⟨rfl, hb2⟩; have hbw : Below w.heap.size w w2 := hb0.trans (hb2.mono hb0.size); have nb2 := nb_below hb2 HNB.out; have k0 : w2.cell? ⟨w.heap.size, 0, none⟩ = some (.int .i64 lim) := cell_later hb2 (by go_simp); have k1 : w2.cell? ⟨w.heap.size, 1, none⟩ = some (.slice m1 m2 m3) := cell_later hb2 (by go_simp); have k2 : w2.cell? ⟨w.heap.size, 2, none⟩ = some (.slice ra n rc) := cell_later hb2 (by go_simp); have d0 : w2.cell? ⟨w.heap.size + 1, 0, none⟩ = some (.string ek) := cell_later hb2 (by go_simp); have d1 : w2.cell? ⟨w.heap.size + 1, 1, none⟩ = some (.int .i64 et) := cell_later hb2 (by go_simp); have d2 : w2.cell? ⟨w.heap.size + 1, 2, none⟩ = some (.int .i64 es) := cell_later hb2 (by go_simp); have d3 : w2.cell? ⟨w.heap.size + 1, 3, none⟩ = some (.slice r1 r2 r3) := cell_later hb2 (by go_simp); have d4 : w2.cell? ⟨w.heap.size + 1, 4, none⟩ = some (.bool em) := cell_later hb2 (by go_simp))
    | (go_at_call 30; refine (KE.out _ hbw).mono ?_; rintro e w3 ⟨rfl, hb3⟩; have nb3 := nb_below hb3 nb2; have hbx : Below w.heap.size w w3 := hbw.trans (hb3.mono hbw.size); have k0' : w3.cell? ⟨w.heap.size, 0, none⟩ = some (.int .i64 lim) := cell_later hb3 k0; have k1' : w3.cell? ⟨w.heap.size, 1, none⟩ = some (.slice m1 m2 m3) := cell_later hb3 k1; have k2' : w3.cell? ⟨w.heap.size, 2, none⟩ = some (.slice ra n rc) := cell_later hb3 k2; have d0' : w3.cell? ⟨w.heap.size + 1, 0, none⟩ = some (.string ek) := cell_later hb3 d0; have d1' : w3.cell? ⟨w.heap.size + 1, 1, none⟩ = some (.int .i64 et) := cell_later hb3 d1; have d2' : w3.cell? ⟨w.heap.size + 1, 2, none⟩ = some (.int .i64 es) := cell_later hb3 d2; have d3' : w3.cell? ⟨w.heap.size + 1, 3, none⟩ = some (.slice r1 r2 r3) := cell_later hb3 d3; have d4' : w3.cell? ⟨w.heap.size + 1, 4, none⟩ = some (.bool em) := cell_later hb3 d4))
  go_region_law (first
    | (go_simp; go_at_call 32; refine (KP.out _).mono ?_; rintro e w4 ⟨rfl, hb4⟩; have hbX4 : Below w.heap.size w w4 := hbx.drew.trans (hb4.mono hbx.size); have nb4 := nb_below hb4 (nb_drew nb3); have v0 : w4.cell? ⟨w.heap.size + 1, 0, none⟩ = some (.string ek) := cell_later hb4 d0'; have v1 : w4.cell? ⟨w.heap.size + 1, 1, none⟩ = some (.int .i64 et) := cell_later hb4 d1'; have v2 : w4.cell? ⟨w.heap.size + 1, 2, none⟩ = some (.int .i64 es) := cell_later hb4 d2'; have v3 : w4.cell? ⟨w.heap.size + 1, 3, none⟩ = some (.slice r1 r2 r3) := cell_later hb4 d3'; have v4 : w4.cell? ⟨w.heap.size + 1, 4, none⟩ = some (.bool em) := cell_later hb4 d4'; have u0 : w4.cell? ⟨w.heap.size, 0, none⟩ = some (.int .i64 lim) := cell_later hb4 (by go_simp); have u1 : w4.cell? ⟨w.heap.size, 1, none⟩ = some (.slice m1 m2 m3) := cell_later hb4 (by go_simp); have u2 : w4.cell? ⟨w.heap.size, 2, none⟩ = some (.slice ra n rc) := cell_later hb4 (by go_simp))
    | (go_simp; go_at_call 31; refine (KH.out _ hbX4).mono ?_; rintro e w5 ⟨rfl, hb5⟩; have nb5 := nb_below hb5 nb4; have hbX5 : Below w.heap.size w w5 := hbX4.trans (hb5.mono hbX4.size); have x0 : w5.cell? ⟨w.heap.size + 1, 0, none⟩ = some (.string ek) := cell_later hb5 v0; have x1 : w5.cell? ⟨w.heap.size + 1, 1, none⟩ = some (.int .i64 et) := cell_later hb5 v1; have x2 : w5.cell? ⟨w.heap.size + 1, 2, none⟩ = some (.int .i64 es) := cell_later hb5 v2; have x3 : w5.cell? ⟨w.heap.size + 1, 3, none⟩ = some (.slice r1 r2 r3) := cell_later hb5 v3; have x4 : w5.cell? ⟨w.heap.size + 1, 4, none⟩ = some (.bool em) := cell_later hb5 v4; have s0 : w5.cell? ⟨w.heap.size, 0, none⟩ = some (.int .i64 lim) := cell_later hb5 (by go_simp); have s1 : w5.cell? ⟨w.heap.size, 1, none⟩ = some (.slice m1 m2 m3) := cell_later hb5 (by go_simp); have s2 : w5.cell? ⟨w.heap.size, 2, none⟩ = some (.slice ra n rc) := cell_later hb5 (by go_simp)))
  all_goals
    go_wp2_with (first
      | (go_at_call 33; refine (KS.out _ hbX5).mono ?_; rintro e w6 ⟨rfl, hb6⟩; have nb6 := nb_below hb6 nb5; have hbX6 : Below w.heap.size w w6 := hbX5.trans (hb6.mono hbX5.size); have t0 : w6.cell? ⟨w.heap.size, 0, none⟩ = some (.int .i64 lim) := cell_later hb6 s0; have t1 : w6.cell? ⟨w.heap.size, 1, none⟩ = some (.slice m1 m2 m3) := cell_later hb6 s1; have t2 : w6.cell? ⟨w.heap.size, 2, none⟩ = some (.slice ra n rc) := cell_later hb6 s2)
      | (go_at_call 34; refine (KK.out _ hbX6).mono ?_; rintro e w7 ⟨⟨⟨ra', rc', ⟨⟨a1, a2, a3⟩, ml'⟩, rs'⟩, rfl, hob⟩, hb7⟩; have HOB : Hid (OB w7 w.heap.size ⟨ra', rc', ((a1, a2, a3), ml'), rs'⟩ ⟨lim, mem, runs⟩) := OB_mono hob hbX6.size; rw [show bufV ⟨lim, mem, runs⟩ ⟨ra', rc', ((a1, a2, a3), ml'), rs'⟩ = .agg #[.int .i64 lim, .slice a1 a2 a3, .slice ra' rs'.length rc'] from rfl]; have nb7 := nb_below hb7 nb6; have hbX7 : Below w.heap.size w w7 := hbX6.trans (hb7.mono hbX6.size); obtain ⟨rn, hrn⟩ : ∃ z, rs'.length = z := ⟨_, rfl⟩; rw [hrn]))
    have q0 : w7.cell? ⟨w.heap.size + 1, 0, none⟩ = some (.string ek) := cell_later hb7 (cell_later hb6 x0)
    have q1 : w7.cell? ⟨w.heap.size + 1, 1, none⟩ = some (.int .i64 et) := cell_later hb7 (cell_later hb6 x1)
    have q2 : w7.cell? ⟨w.heap.size + 1, 2, none⟩ = some (.int .i64 es) := cell_later hb7 (cell_later hb6 x2)
    have q3 : w7.cell? ⟨w.heap.size + 1, 3, none⟩ = some (.slice r1 r2 r3) := cell_later hb7 (cell_later hb6 x3)
    have q4 : w7.cell? ⟨w.heap.size + 1, 4, none⟩ = some (.bool em) := cell_later hb7 (cell_later hb6 x4)
    have ha2 : a2 = ml'.length := by
      obtain ⟨ad, cp, hf⟩ := HOB.out.mem.form
      unfold hdV at hf
      injection hf with _ e2 _
    have hmm : ml'.length ≤ 100000 := by rw [HOB.out.mem.len]; exact HML.out
    have HRN : Hid (rs'.length = rn) := hrn
    have hrn9 : rn ≤ 100000 := by rw [← hrn, HOB.out.rlen]; exact HNR.out
    have HPS : Hid (PSt (w7.alloc (.cells #[.int .i64 lim, .slice a1 a2 a3, .slice ra' rn rc'] 25)) (w.heap.size + 1 + 1) w7.heap.size w.heap.size ⟨ra', rc', ((a1, a2, a3), ml'), rs'⟩ ⟨lim, mem, runs⟩) := by
      have k := startP nb7 HOB.out (show w.heap.size ≤ w.heap.size + 1 + 1 by omega)
      rw [← hrn]
      exact k
    have hbV : Below w.heap.size w (w7.alloc (.cells #[.int .i64 lim, .slice a1 a2 a3, .slice ra' rn rc'] 25)) := hbX7.alloc hbX7.size _
    have hb7V : Below w7.heap.size w7 (w7.alloc (.cells #[.int .i64 lim, .slice a1 a2 a3, .slice ra' rn rc'] 25)) := (Below.refl _ _).alloc (Nat.le_refl _) _
    have y0 := cell_later hb7V q0
    have y1 := cell_later hb7V q1
    have y2 := cell_later hb7V q2
    have y3 := cell_later hb7V q3
    have y4 := cell_later hb7V q4
    have z1 : (w7.alloc (.cells #[.int .i64 lim, .slice a1 a2 a3, .slice ra' rn rc'] 25)).cell? ⟨w7.heap.size, 1, none⟩ = some (.slice a1 a2 a3) := HPS.out.k.c1
    have lNB : w7.heap.size < (w7.alloc (.cells #[.int .i64 lim, .slice a1 a2 a3, .slice ra' rn rc'] 25)).heap.size := by simp
    have lw7 : w.heap.size + 1 < w7.heap.size := World.block_lt_of_cell? _ _ q0
    clear s0 s1 s2 t0 t1 t2 u0 u1 u2 q0 q1 q2 q3 q4 nb3 nb4 nb5 nb6 nb7 hrn x0 x1 x2 x3 x4 v0 v1 v2 v3 v4
    subst ha2
    obtain ⟨mn, hmn⟩ : ∃ z, ml'.length = z := ⟨_, rfl⟩
    have HMN : Hid (ml'.length = mn) := hmn
    rw [hmn] at hmm z1 HPS y0 y1 y2 y3 y4 hbV hb7V lNB ⊢
    clear hmn
    generalize hVV : w7.alloc (.cells #[.int .i64 lim, .slice a1 mn a3, .slice ra' rn rc'] 25) = V at *
    obtain ⟨i0, hi0, hz0, hz1, hz2⟩ := info_parts infoH
    have HI : Hid (Try.prog.info? 22 = some i0 ∧ i0.zero = some (.slice none 0 0) ∧ i0.size = 1 ∧ i0.bytes = 24) := ⟨hi0, hz0, hz1, hz2⟩
    clear hi0 hz0 hz1 hz2
    go_region_law (first
      | (refine step_appE (by rfl) (.tmp 30) (.tmp 33) (by rfl) w.heap.size (.slice a1 mn a3) ml' ek et es ad9 rl c9 em w9 mn HO9.out (by omega) (Nat.le_trans hbV.size hbV9.size) (by simp [Act.eval, Act.put]) (by simp [Act.eval, Act.put]) ?_; intro g10 c10 w10 hown10 hgrow10 hat10 hlt10; have hmid := PSt_mid HPS.out hbV9 hgrow10; obtain ⟨p1, pf⟩ := hmid; unfold hdV at p1; dsimp only at p1)
      | (go_simp; go_at_call 36; refine (KF.out _ hbV.drew).mono ?_; rintro e w9 ⟨⟨ad9, c9, rfl, hov⟩, hb9⟩; have hbV9 : Below V.heap.size V w9 := (Below.refl _ _).drew.trans hb9; have n1 : w9.cell? ⟨w7.heap.size, 1, none⟩ = some (.slice a1 mn a3) := cell_later hbV9 z1; have HO9 : Hid (w9.ownsRow w.heap.size 28 5 (.slice a1 mn a3) mn (entCells ml')) := (by have k := own_below HPS.out.k.ob.mem.own hbV9; dsimp only at k; rw [HMN.out] at k; exact k); have ln9 : w7.heap.size < w9.heap.size := Nat.lt_of_lt_of_le lNB hbV9.size))
    all_goals
      have HAP := PSt_app (e := ⟨ek, et, es, (ad9, rl, c9), em⟩) (y := y) (g := g10) (c4 := c10) HPS.out hbV9 ⟨HER.out.key, HER.out.time, HER.out.seq, HER.out.met, HRL.out.symm, by unfold hdV; dsimp only; exact own_mono hov hbV.size⟩ (by dsimp only; rw [HMN.out]; exact hown10) hgrow10 hat10
      dsimp only at HAP
      rw [HMN.out] at HAP
      obtain ⟨P2, B2⟩ := HAP
      generalize w10.setCell ⟨w7.heap.size, 1, none⟩ (.slice (some ⟨g10, 0, none⟩) (mn + 1) c10) = W2 at *
      have hbW2 : Below w.heap.size w W2 := hbV.trans B2
      have HP2 : Hid (PSt W2 (w.heap.size + 1 + 1) w7.heap.size w.heap.size ⟨ra', rc', ((some ⟨g10, 0, none⟩, mn + 1, c10), ml' ++ [⟨ek, et, es, (ad9, rl, c9), em⟩]), rs'⟩ ⟨lim, mem ++ [y], runs⟩) := P2
      have KSr : Hid (Calls Try.prog 37 #[.slice (some ⟨g10, 0, none⟩) (mn + 1) c10, .func (.func 38) #[] #[]] W2 fun e w' => e = .returned (.tuple #[]) ∧ ∃ es' l', l'.Perm (mem ++ [y]) ∧ (∀ i j, i < j → j < l'.length → ¬ ltP (l'.getD j default) (l'.getD i default)) ∧ OE w' w.heap.size (.slice (some ⟨g10, 0, none⟩) (mn + 1) c10) es' l' ∧ Below w.heap.size W2 w' ∧ (∀ b, b < W2.heap.size → (Value.slice (some ⟨g10, 0, none⟩) (mn + 1) c10).ownBlock ≠ some b → w'.heap[b]? = W2.heap[b]?)) := sort_any w.heap.size _ _ _ W2 P2.k.ob.mem (by rw [List.length_append, HMN.out]; simp; omega)
      have c1 : W2.cell? ⟨w7.heap.size, 1, none⟩ = some (.slice (some ⟨g10, 0, none⟩) (mn + 1) c10) := P2.k.c1
      have HLEN : Hid (mem.length = mn) := by show _ = _; rw [← HMN.out, HOB.out.mem.len]
      clear P2 y0 y1 y2 y3 y4 z1 hown10 hgrow10 hov p1 pf n1 HO9
      by_cases hlim : lim < (mn : Int) + 1
      · go_wp2_with (first
          | (go_at_call 37; refine KSr.out.mono ?_; rintro e w11 ⟨rfl, es2, l2, hp2, hs2, hoe2, hb11, hk11⟩; have P3 := PSt_sort HP2.out hoe2 hb11.size hk11; dsimp only at P3; have HP3 : Hid (PSt w11 (w.heap.size + 1 + 1) w7.heap.size w.heap.size ⟨ra', rc', ((some ⟨g10, 0, none⟩, mn + 1, c10), es2), rs'⟩ ⟨lim, l2, runs⟩) := P3; have i0' : w11.cell? ⟨w7.heap.size, 0, none⟩ = some (.int .i64 lim) := P3.k.c0; have i1' : w11.cell? ⟨w7.heap.size, 1, none⟩ = some (.slice (some ⟨g10, 0, none⟩) (mn + 1) c10) := P3.k.c1; have i2' : w11.cell? ⟨w7.heap.size, 2, none⟩ = some (.slice ra' rn rc') := (by have k := P3.k.c2; dsimp only at k; rw [HRN.out] at k; exact k); have j0 := P3.k.r0; have j1 := P3.k.r1; have j2 := P3.k.r2; have g0 := P3.k.g0; have g1 := P3.k.g1; have g2 := P3.k.g2; have fz1 := P3.f1; have fz2 := P3.k.f2; have HOH : Hid (w11.ownsRow w.heap.size 22 1 (.slice ra' rn rc') rn (rs'.map fun p => hdV p.1)) := (by have k := P3.k.ob.hds; dsimp only at k; rw [HRN.out] at k; exact k); have hsz11 : w.heap.size ≤ w11.heap.size := Nat.le_trans hbW2.size hb11.size; have lN11 : w7.heap.size < w11.heap.size := World.block_lt_of_cell? _ _ i0'; have lC11 : w.heap.size + 1 + 1 < w11.heap.size := World.block_lt_of_cell? _ _ j0; clear P3)
          | (at_builtin; refine wpList_append_own _ rfl (.tmp 46) (.tmp 49) 23 rfl w.heap.size 22 i0 (.slice none 0 0) 1 24 Try.underlying23 HI.out.1 HI.out.2.1 HI.out.2.2.1 HI.out.2.2.2 rfl (by decide) _ _ _ rfl (World.ownsRow.alloc HOH.out _) ⟨w11.heap.size, 0, none⟩ 1 1 [.slice (some ⟨g10, 0, none⟩) (mn + 1) c10] rfl rfl (cell_one_new _ _ rfl _) (by intro u hu; simp at hu; rcases hu with rfl; rfl) (by unfold maxLen; omega) (by omega) (by simp; omega) ?_; intro v12 w12 hown12 hgrow12 hnil12; obtain ⟨g12, c12, hv12⟩ := own_some hown12; subst hv12; have hm2 := PSt_mid2 HP3.out (by dsimp only; rw [HRN.out]; exact hgrow12); obtain ⟨_, eN, eC, _⟩ := hm2; have aa0 := (World.cell?_of_block (a := ⟨w7.heap.size, 0, none⟩) eN).trans i0'; have aa1 := (World.cell?_of_block (a := ⟨w7.heap.size, 1, none⟩) eN).trans i1'; have aa2 := (World.cell?_of_block (a := ⟨w7.heap.size, 2, none⟩) eN).trans i2'; have af1 := (froz_of (p := ⟨w7.heap.size, 1, none⟩) eN).trans fz1; have af2 := (froz_of (p := ⟨w7.heap.size, 2, none⟩) eN).trans fz2; have ac0 := (World.cell?_of_block (a := ⟨w.heap.size + 1 + 1, 0, none⟩) eC).trans j0; have ac1 := (World.cell?_of_block (a := ⟨w.heap.size + 1 + 1, 1, none⟩) eC).trans j1; have ac2 := (World.cell?_of_block (a := ⟨w.heap.size + 1 + 1, 2, none⟩) eC).trans j2; have ag0 := (froz_of (p := ⟨w.heap.size + 1 + 1, 0, none⟩) eC).trans g0; have ag1 := (froz_of (p := ⟨w.heap.size + 1 + 1, 1, none⟩) eC).trans g1; have ag2 := (froz_of (p := ⟨w.heap.size + 1 + 1, 2, none⟩) eC).trans g2; have hne7 : w.heap.size + 1 + 1 ≠ w7.heap.size := Nat.ne_of_lt HP3.out.k.ne))
        have hl2 : l2.length = mn + 1 := by rw [hp2.length_eq, List.length_append, HLEN.out]; rfl
        have hput : putB ⟨lim, mem, runs⟩ l2 = ⟨lim, [], runs ++ [l2]⟩ := by unfold putB; rw [if_pos (by dsimp only; rw [hl2]; push_cast; omega)]
        have HMV := PSt_move (g := g12) (cap2 := c12) HP3.out (by dsimp only; rw [HRN.out]; exact hown12) (by dsimp only; rw [HRN.out]; exact hgrow12)
        dsimp only at HMV
        rw [HRN.out] at HMV
        have hbE := (hbW2.trans hb11).trans HMV.2
        refine bodyPost_ret (v := .tuple #[.agg #[.int .i64 lim, .slice none 0 0, .slice (some ⟨g12, 0, none⟩) (rn + 1) c12], .int .i64 0]) (by simp [results, Try.results8, go_sem, ac0, ac1, ac2, hne7]) rfl ⟨⟨⟨some ⟨g12, 0, none⟩, c12, ((none, 0, 0), []), rs' ++ [((some ⟨g10, 0, none⟩, mn + 1, c10), es2)]⟩, l2, ?_, hp2, hs2, ?_⟩, ?_⟩
        · rw [hput]; unfold bufV hdV; dsimp only; rw [List.length_append, HRN.out]; rfl
        · rw [hput]; exact OB_set3 HMV.1.k.ob HMV.1.k.rt _ _ _
        · exact ((hbE.setCell (by dsimp only; omega) _).setCell (by dsimp only; omega) _).setCell (by dsimp only; omega) _
      · go_wp2_with (go_at_call 37; refine KSr.out.mono ?_; rintro e w11 ⟨rfl, es2, l2, hp2, hs2, hoe2, hb11, hk11⟩; have P3 := PSt_sort HP2.out hoe2 hb11.size hk11; dsimp only at P3; have HP3 : Hid (PSt w11 (w.heap.size + 1 + 1) w7.heap.size w.heap.size ⟨ra', rc', ((some ⟨g10, 0, none⟩, mn + 1, c10), es2), rs'⟩ ⟨lim, l2, runs⟩) := P3; have i0' : w11.cell? ⟨w7.heap.size, 0, none⟩ = some (.int .i64 lim) := P3.k.c0; have i1' : w11.cell? ⟨w7.heap.size, 1, none⟩ = some (.slice (some ⟨g10, 0, none⟩) (mn + 1) c10) := P3.k.c1; have i2' : w11.cell? ⟨w7.heap.size, 2, none⟩ = some (.slice ra' rn rc') := (by have k := P3.k.c2; dsimp only at k; rw [HRN.out] at k; exact k); have j0 := P3.k.r0; have j1 := P3.k.r1; have j2 := P3.k.r2; have g0 := P3.k.g0; have g1 := P3.k.g1; have g2 := P3.k.g2; clear P3)
        have hl2 : l2.length = mn + 1 := by rw [hp2.length_eq, List.length_append, HLEN.out]; rfl
        have hbE : Below w.heap.size w w11 := hbW2.trans hb11
        have hput : putB ⟨lim, mem, runs⟩ l2 = ⟨lim, l2, runs⟩ := by unfold putB; rw [if_neg (by dsimp only; rw [hl2]; push_cast; omega)]
        refine bodyPost_ret (v := .tuple #[.agg #[.int .i64 lim, .slice (some ⟨g10, 0, none⟩) (mn + 1) c10, .slice ra' rn rc'], .int .i64 0]) (by simp [results, Try.results8, go_sem, j0, j1, j2]) rfl ⟨⟨⟨ra', rc', ((some ⟨g10, 0, none⟩, mn + 1, c10), es2), rs'⟩, l2, ?_, hp2, hs2, ?_⟩, ?_⟩
        · rw [hput]; unfold bufV hdV; dsimp only; rw [HRN.out]
        · rw [hput]; exact OB_set3 HP3.out.k.ob HP3.out.k.rt _ _ _
        · exact ((hbE.setCell (by dsimp only; omega) _).setCell (by dsimp only; omega) _).setCell (by dsimp only; omega) _
end Go.Proofs.Ytnfknkihiapgiaa.bf
