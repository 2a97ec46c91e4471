/- Several texts in one: BatBegun. -/
import Derived.Test.YtcpanmaahhiioaaGreatMgBatK
import Derived.Test.YtcpanmaahhiioaaGreatMgPlnH
import Derived.Test.YtcpanmaahhiioaaGreatMgChgD
/- What must be in any case: batchBegun. -/
namespace Go.Proofs.YtcpanmaahhiioaaGreat.bt
open Go.ChangeShapes Go.WideShapes Go.ChangeAt Go.RowKit Go.Maps Go.WideMaps
open vl pl
set_option linter.unusedVariables false
set_option linter.unusedSimpArgs false
def nm (n : Int) : Cel := ⟨2, n, ⟨#[]⟩⟩
def L0 : List Stm := [⟨1, [nm 7, nm 1]⟩]
def R0 : List Stm := [⟨2, [nm 7, nm 2]⟩, ⟨9, [nm 7, nm 3]⟩]
def V0 : List ch.Cnt := [⟨[noCel, noCel, nm 7, nm 3], 1⟩, ⟨[nm 7, nm 1, nm 7, nm 2], 1⟩]
def G0 : List ch.Cnt := [⟨[noCel, nm 1, noCel], 1⟩, ⟨[nm 7, nm 1, nm 1], 1⟩]
theorem b1 : batchErr simpleP L0 R0 = 0 := by kernel_rfl
theorem b2 : rowsK (told simpleP L0 R0) = ch.kvOf V0 := by kernel_rfl
theorem b3 : groupErr countedP V0 = 0 := by kernel_rfl
theorem b4 : groupOut countedP V0 = G0 := by kernel_rfl
theorem wf_nm (n : Int) (h : -9223372036854775808 ≤ n ∧ n ≤ 9223372036854775807) : (-9223372036854775808 ≤ (nm n).n ∧ (nm n).n ≤ 9223372036854775807) ∧ (nm n).s.size ≤ maxLen := ⟨h, by show (0 : Nat) ≤ maxLen; omega⟩
theorem wf_no : (-9223372036854775808 ≤ noCel.n ∧ noCel.n ≤ 9223372036854775807) ∧ noCel.s.size ≤ maxLen := ⟨⟨by decide, by decide⟩, by decide⟩
theorem wf_two {a b : Cel} (ha : (-9223372036854775808 ≤ a.n ∧ a.n ≤ 9223372036854775807) ∧ a.s.size ≤ maxLen) (hb : (-9223372036854775808 ≤ b.n ∧ b.n ≤ 9223372036854775807) ∧ b.s.size ≤ maxLen) : wfRow [a, b] := by
  intro c hc
  rcases List.mem_cons.1 hc with rfl | hc
  · exact ha
  · rw [List.mem_singleton.1 hc]; exact hb
theorem wf_three {a b c : Cel} (ha : (-9223372036854775808 ≤ a.n ∧ a.n ≤ 9223372036854775807) ∧ a.s.size ≤ maxLen) (hb : (-9223372036854775808 ≤ b.n ∧ b.n ≤ 9223372036854775807) ∧ b.s.size ≤ maxLen) (hc : (-9223372036854775808 ≤ c.n ∧ c.n ≤ 9223372036854775807) ∧ c.s.size ≤ maxLen) : wfRow [a, b, c] := by
  intro x hx
  rcases List.mem_cons.1 hx with rfl | hx
  · exact ha
  · exact wf_two hb hc x hx
theorem wfL0 : wfStms L0 := by
  intro s hs
  rw [List.mem_singleton.1 hs]
  exact ⟨wf_two (wf_nm _ (by decide)) (wf_nm _ (by decide)), by decide, by unfold i64; decide⟩
theorem wfR0 : wfStms R0 := by
  intro s hs
  rcases List.mem_cons.1 hs with rfl | hs
  · exact ⟨wf_two (wf_nm _ (by decide)) (wf_nm _ (by decide)), by decide, by unfold i64; decide⟩
  · rw [List.mem_singleton.1 hs]
    exact ⟨wf_two (wf_nm _ (by decide)) (wf_nm _ (by decide)), by decide, by unfold i64; decide⟩
theorem wfV0 : ch.wfView V0 := by
  intro s hs
  rcases List.mem_cons.1 hs with rfl | hs
  · exact ⟨by
      intro x hx
      rcases List.mem_cons.1 hx with rfl | hx
      · exact wf_no
      · exact wf_three wf_no (wf_nm _ (by decide)) (wf_nm _ (by decide)) x hx, by decide, by decide⟩
  · rw [List.mem_singleton.1 hs]
    exact ⟨by
      intro x hx
      rcases List.mem_cons.1 hx with rfl | hx
      · exact wf_nm _ (by decide)
      · exact wf_three (wf_nm _ (by decide)) (wf_nm _ (by decide)) (wf_nm _ (by decide)) x hx, by decide, by decide⟩
theorem v0_ok : ∀ c ∈ V0, rowOk c.r := ch.view_rows wfV0 (by decide +kernel)
theorem wfG0 : ch.wfView G0 := by
  intro s hs
  rcases List.mem_cons.1 hs with rfl | hs
  · exact ⟨wf_three wf_no (wf_nm _ (by decide)) wf_no, by decide, by decide⟩
  · rw [List.mem_singleton.1 hs]
    exact ⟨wf_three (wf_nm _ (by decide)) (wf_nm _ (by decide)) (wf_nm _ (by decide)), by decide, by decide⟩
theorem stms1 {w : World} {b : Nat} {t : Int} {ra : Option Addr} {r : List Cel} {rc : Nat} (h0 : w.cell? ⟨b, 0, none⟩ = some (.int .i64 t)) (h1 : w.cell? ⟨b, 1, none⟩ = some (.slice ra r.length rc)) (hr : vl.rowAt w ra r) : stmsAt w (some ⟨b, 0, none⟩) [⟨t, r⟩] := by
  intro i hi
  match i, hi with
  | 0, _ => exact ⟨b, 0, ra, rc, rfl, h0, h1, hr⟩
theorem stms2 {w : World} {b : Nat} {t u : Int} {ra rb : Option Addr} {r q : List Cel} {rc rd : Nat} (h0 : w.cell? ⟨b, 0, none⟩ = some (.int .i64 t)) (h1 : w.cell? ⟨b, 1, none⟩ = some (.slice ra r.length rc)) (hr : vl.rowAt w ra r) (h2 : w.cell? ⟨b, 2, none⟩ = some (.int .i64 u)) (h3 : w.cell? ⟨b, 3, none⟩ = some (.slice rb q.length rd)) (hq : vl.rowAt w rb q) : stmsAt w (some ⟨b, 0, none⟩) [⟨t, r⟩, ⟨u, q⟩] := by
  intro i hi
  match i, hi with
  | 0, _ => exact ⟨b, 0, ra, rc, rfl, h0, h1, hr⟩
  | 1, _ => exact ⟨b, 0, rb, rd, rfl, h2, h3, hq⟩
theorem view2 {w : World} {b : Nat} {t u : Int} {ra rb : Option Addr} {r q : List Cel} {rc rd : Nat} (h0 : w.cell? ⟨b, 0, none⟩ = some (.slice ra r.length rc)) (h1 : w.cell? ⟨b, 1, none⟩ = some (.int .i64 t)) (hr : vl.rowAt w ra r) (h2 : w.cell? ⟨b, 2, none⟩ = some (.slice rb q.length rd)) (h3 : w.cell? ⟨b, 3, none⟩ = some (.int .i64 u)) (hq : vl.rowAt w rb q) : ch.viewAt w (some ⟨b, 0, none⟩) [⟨r, t⟩, ⟨q, u⟩] := by
  intro i hi
  match i, hi with
  | 0, _ => exact ⟨b, 0, ra, rc, rfl, h0, hr, h1⟩
  | 1, _ => exact ⟨b, 0, rb, rd, rfl, h2, hq, h3⟩
theorem row3 {w : World} {b : Nat} {x y z : Cel} (h0 : w.cell? ⟨b, 0, none⟩ = some (.int .i64 x.k)) (h1 : w.cell? ⟨b, 1, none⟩ = some (.int .i64 x.n)) (h2 : w.cell? ⟨b, 2, none⟩ = some (.string x.s)) (h3 : w.cell? ⟨b, 3, none⟩ = some (.int .i64 y.k)) (h4 : w.cell? ⟨b, 4, none⟩ = some (.int .i64 y.n)) (h5 : w.cell? ⟨b, 5, none⟩ = some (.string y.s)) (h6 : w.cell? ⟨b, 6, none⟩ = some (.int .i64 z.k)) (h7 : w.cell? ⟨b, 7, none⟩ = some (.int .i64 z.n)) (h8 : w.cell? ⟨b, 8, none⟩ = some (.string z.s)) :
    vl.rowAt w (some ⟨b, 0, none⟩) [x, y, z] := by
  intro i hi
  match i, hi with
  | 0, _ => exact ⟨b, 0, rfl, h0, h1, h2⟩
  | 1, _ => exact ⟨b, 0, rfl, h3, h4, h5⟩
  | 2, _ => exact ⟨b, 0, rfl, h6, h7, h8⟩
set_option maxRecDepth 10000 in
set_option maxHeartbeats 4000000 in
theorem begun_any (w : World) : Calls Tryz.prog 11 #[] w fun e w' => e = .returned (.bool true) ∧ Below w.heap.size w w' := by
  have KJ : Hid (∀ x a1 a2 w1, planAt w1 simpleP x → stmsAt w1 a1 L0 → stmsAt w1 a2 R0 → Calls Tryz.prog 9 #[planV simpleP x, .slice a1 1 1, .slice a2 2 2] w1 fun e w' => (∃ ad cap, e = .returned (.tuple #[.slice ad 2 cap, .int .i64 0]) ∧ ch.viewAt w' ad V0) ∧ Below w1.heap.size w1 w') := fun x a1 a2 w1 hp h1 h2 => by
    refine (Join_any simpleP x a1 a2 1 2 L0 R0 w1 wf_simple hp (by decide) h1 h2 wfL0 wfR0).mono ?_
    rintro e w' ⟨hr, hb⟩
    refine ⟨?_, hb⟩
    rcases hr with ⟨h3, _⟩ | ⟨_, out, ad, cap, e1, e2, e3, e4, e5⟩
    · exact absurd b1 h3
    · have := ch.kvOf_inj (ch.view_rows e3 e2) v0_ok (e1.trans b2)
      subst this
      exact ⟨ad, cap, e4, e5⟩
  have KG : Hid (∀ x a1 c1 w1, planAt w1 countedP x → ch.viewAt w1 a1 V0 → Calls Tryz.prog 14 #[planV countedP x, .slice a1 2 c1] w1 fun e w' => (∃ ad cap, e = .returned (.tuple #[.slice ad 2 cap, .int .i64 0]) ∧ ch.viewAt w' ad G0) ∧ Below w1.heap.size w1 w') := fun x a1 c1 w1 hp h1 => by
    refine (Group_any countedP x a1 c1 V0 w1 wf_counted hp (by decide) h1 wfV0).mono ?_
    rintro e w' ⟨hr, hb⟩
    refine ⟨?_, hb⟩
    rcases hr with ⟨h3, _⟩ | ⟨_, ad, cap, e4, e5⟩
    · exact absurd b3 h3
    · rw [b4] at e4 e5
      exact ⟨ad, cap, e4, e5⟩
  have KS : Hid (∀ a1 c1 a2 c2 w1, ch.viewAt w1 a1 G0 → ch.viewAt w1 a2 G0 → Calls Tryz.prog 12 #[.slice a1 2 c1, .slice a2 2 c2] w1 fun e w' => e = .returned (.bool true) ∧ Below w1.heap.size w1 w') := fun a1 c1 a2 c2 w1 h1 h2 => by
    refine (ch.sameViews_any a1 a2 c1 c2 G0 G0 w1 h1 h2 wfG0 wfG0 (by decide) (by decide)).mono ?_
    rintro e w' ⟨he, hb⟩
    exact ⟨by rw [he]; simp, hb⟩
  go_enter Tryz.func11, Tryz.ntmps11
  go_wp2_with fail
  refine (simple_any _).mono ?_
  rintro e w1 ⟨⟨x, rfl, hp, _, _, _, _⟩, hb1⟩
  have HP : Hid (planAt w1 simpleP x) := hp
  obtain ⟨pv, hpv⟩ : ∃ z, planV simpleP x = z := ⟨_, rfl⟩
  rw [hpv]
  clear hp
  go_wp2_with fail
  refine (lawRow_any _ _ _).mono ?_
  rintro e w2 ⟨⟨r1, rfl, hr1⟩, hb2⟩
  have HR1 : Hid (vl.rowAt w2 r1 [nm 7, nm 1]) := hr1
  clear hr1
  go_wp2_with fail
  generalize hV : (World.alloc w2 _) = w3
  have hb3 : Below w2.heap.size w2 w3 := by rw [← hV]; exact (Below.refl _ _).alloc (Nat.le_refl _) _
  have HS1 : Hid (stmsAt w3 (some ⟨w2.heap.size, 0, none⟩) L0) := stms1 (rc := 2) (by subst hV; go_simp) (by subst hV; show _ = some (Value.slice r1 2 2); go_simp) (rowAt_below HR1.out hb3)
  clear hV
  refine (lawRow_any _ _ _).mono ?_
  rintro e w4 ⟨⟨r2, rfl, hr2⟩, hb4⟩
  have HR2 : Hid (vl.rowAt w4 r2 [nm 7, nm 2]) := hr2
  clear hr2
  go_wp2_with fail
  refine (lawRow_any _ _ _).mono ?_
  rintro e w5 ⟨⟨r3, rfl, hr3⟩, hb5⟩
  have HR3 : Hid (vl.rowAt w5 r3 [nm 7, nm 3]) := hr3
  clear hr3
  have b24 : Below w2.heap.size w2 w5 := (hb3.trans (hb4.mono hb3.size)).trans (hb5.mono (Nat.le_trans hb3.size hb4.size))
  have b35 : Below w3.heap.size w3 w5 := hb4.trans (hb5.mono hb4.size)
  have bw5 : Below w.heap.size w w5 := (hb1.trans (hb2.mono hb1.size)).trans (b24.mono (Nat.le_trans hb1.size hb2.size))
  go_wp2_with fail
  generalize hV : (World.alloc w5 _) = w6
  have hb6 : Below w5.heap.size w5 w6 := by rw [← hV]; exact (Below.refl _ _).alloc (Nat.le_refl _) _
  have HS2 : Hid (stmsAt w6 (some ⟨w5.heap.size, 0, none⟩) R0) := stms2 (rc := 2) (rd := 2) (by subst hV; go_simp) (by subst hV; show _ = some (Value.slice r2 2 2); go_simp) (rowAt_below (rowAt_below HR2.out hb5) hb6) (by subst hV; go_simp) (by subst hV; show _ = some (Value.slice r3 2 2); go_simp) (rowAt_below HR3.out hb6)
  clear hV
  subst hpv
  refine (KJ.out x _ _ w6 (planAt_below HP.out ((hb2.trans (b24.mono hb2.size)).trans (hb6.mono (Nat.le_trans hb2.size b24.size)))) (stmsAt_below HS1.out (b35.trans (hb6.mono b35.size))) HS2.out).mono ?_
  rintro e w7 ⟨⟨ad7, cap7, rfl, hv7⟩, hb7⟩
  have HV7 : Hid (ch.viewAt w7 ad7 V0) := hv7
  have bw7 : Below w.heap.size w w7 := (bw5.trans (hb6.mono bw5.size)).trans (hb7.mono (Nat.le_trans bw5.size hb6.size))
  clear hv7
  obtain ⟨pv, hpv⟩ : ∃ z, planV simpleP x = z := ⟨_, rfl⟩
  rw [hpv]
  clear hpv
  go_wp2_with fail
  refine (counted_any _).mono ?_
  rintro e w8 ⟨⟨x8, rfl, hp8⟩, hb8⟩
  have HP8 : Hid (planAt w8 countedP x8) := hp8
  have bw8 := bw7.trans (hb8.mono bw7.size)
  clear hp8
  obtain ⟨pv8, hpv8⟩ : ∃ z, planV countedP x8 = z := ⟨_, rfl⟩
  rw [hpv8]
  go_wp2_with fail
  subst hpv8
  refine (KG.out x8 ad7 cap7 w8 HP8.out (ch.viewAt_below HV7.out hb8)).mono ?_
  rintro e w9 ⟨⟨ad9, cap9, rfl, hv9⟩, hb9⟩
  have HV9 : Hid (ch.viewAt w9 ad9 G0) := hv9
  have bw9 := bw8.trans (hb9.mono bw8.size)
  clear hv9
  obtain ⟨pv9, hpv9⟩ : ∃ z, planV countedP x8 = z := ⟨_, rfl⟩
  rw [hpv9]
  clear hpv9
  go_wp2_with fail
  refine (pl.num_any _ _).mono ?_
  rintro e wa ⟨rfl, hba⟩
  go_wp2_with fail
  generalize hV : (World.alloc wa _) = wb
  have hbb : Below wa.heap.size wa wb := by rw [← hV]; exact (Below.refl _ _).alloc (Nat.le_refl _) _
  have HRB : Hid (vl.rowAt wb (some ⟨wa.heap.size, 0, none⟩) [noCel, nm 1, noCel]) := row3 (by subst hV; go_simp; rfl) (by subst hV; go_simp; rfl) (by subst hV; go_simp; rfl) (by subst hV; go_simp; rfl) (by subst hV; go_simp; rfl) (by subst hV; go_simp; rfl) (by subst hV; go_simp; rfl) (by subst hV; go_simp; rfl) (by subst hV; go_simp; rfl)
  clear hV
  refine (pl.num_any _ _).mono ?_
  rintro e wc ⟨rfl, hbc⟩
  go_wp2_with fail
  refine (pl.num_any _ _).mono ?_
  rintro e wd ⟨rfl, hbd⟩
  go_wp2_with fail
  refine (pl.num_any _ _).mono ?_
  rintro e we ⟨rfl, hbe⟩
  have bbe : Below wb.heap.size wb we := (hbc.trans (hbd.mono hbc.size)).trans (hbe.mono (Nat.le_trans hbc.size hbd.size))
  have b9e : Below w9.heap.size w9 we := (hba.trans (hbb.mono hba.size)).trans (bbe.mono (Nat.le_trans hba.size hbb.size))
  go_wp2_with fail
  generalize hV : (World.alloc (World.alloc we _) _) = wf
  have hbf : Below we.heap.size we wf := by rw [← hV]; exact ((Below.refl _ _).alloc (Nat.le_refl _) _).alloc (by simp) _
  have HRF : Hid (vl.rowAt wf (some ⟨we.heap.size, 0, none⟩) [nm 7, nm 1, nm 1]) := row3 (by subst hV; go_simp; rfl) (by subst hV; go_simp; rfl) (by subst hV; go_simp; rfl) (by subst hV; go_simp; rfl) (by subst hV; go_simp; rfl) (by subst hV; go_simp; rfl) (by subst hV; go_simp; rfl) (by subst hV; go_simp; rfl) (by subst hV; go_simp; rfl)
  have HVF : Hid (ch.viewAt wf (some ⟨we.heap.size + 1, 0, none⟩) G0) := view2 (rc := 3) (rd := 3) (ra := some ⟨wa.heap.size, 0, none⟩) (rb := some ⟨we.heap.size, 0, none⟩) (by subst hV; show _ = some (Value.slice (some ⟨wa.heap.size, 0, none⟩) 3 3); go_simp) (by subst hV; go_simp) (rowAt_below (rowAt_below HRB.out bbe) hbf) (by subst hV; show _ = some (Value.slice (some ⟨we.heap.size, 0, none⟩) 3 3); go_simp) (by subst hV; go_simp) HRF.out
  clear hV
  have bwf : Below w.heap.size w wf := (bw9.trans (b9e.mono bw9.size)).trans (hbf.mono (Nat.le_trans bw9.size b9e.size))
  refine (KS.out ad9 cap9 _ _ wf (ch.viewAt_below (ch.viewAt_below HV9.out b9e) hbf) HVF.out).mono ?_
  rintro e wg ⟨rfl, hbg⟩
  go_wp2
  go_ret
  exact ⟨rfl, bwf.trans (hbg.mono bwf.size)⟩
end Go.Proofs.YtcpanmaahhiioaaGreat.bt
