/- What groupBegun does: Step with two rows that come to one group. -/
import Derived.Test.YtbfbgdinhiglaaaGreatGrpDo2
import Derived.Test.YtbfbgdinhiglaaaGreatGrpDo3
import Derived.Test.YtbfbgdinhiglaaaGreatGrpChk
import Derived.Test.YtbfbgdinhiglaaaGreatGrpTold
import Derived.Test.YtbfbgdinhiglaaaGreatGrpRows
import Derived.Test.YtbfbgdinhiglaaaGreatGrpCounted
namespace Go.Proofs.YtbfbgdinhiglaaaGreat.gr
open Go.ChangeShapes Go.WideShapes Go.ChangeAt Go.RowKit
open vl pl bt
set_option linter.unusedVariables false
set_option linter.unusedSimpArgs false
attribute [local go_sem] Oper.semAt_some
def cI (n : Int) : Cel := ⟨2, n, ⟨#[]⟩⟩
def rowB1 : List Cel := [cI 7, cI 1, cI 7, cI 2]
def rowB2 : List Cel := [cI 7, cI 5, cI 7, cI 2]
def chgsB : List ch.Chg := [⟨1, rowB1⟩, ⟨1, rowB2⟩]
def grpB2 : Grp := oneG [cI 7] 2 [(cI 1, 1), (cI 5, 1)]
theorem errB_none : grpsErr countedP [] = 0 := by kernel_rfl
theorem errB_one : grpsErr countedP [grpB2] = 0 := by kernel_rfl
theorem errB_chgs : chgsErr countedP chgsB = 0 := by kernel_rfl
theorem cmpB_same : cmpRows [cI 7] [cI 7] = 0 := by kernel_rfl
theorem cmpB_less : cmpC (cI 1) (cI 5) < 0 := by decide
theorem viewB : [grpB2].map (rowC countedP) = [⟨[cI 7, cI 2, cI 6], 1⟩] := by kernel_rfl
theorem wf_chgsB : ch.wfChgs chgsB := by
  have hr : ∀ a b c d : Int, i64 a → i64 b → i64 c → i64 d → wfRow [cI a, cI b, cI c, cI d] := fun a b c d ha hb hc hd z hz => by
    simp only [List.mem_cons, List.not_mem_nil, or_false] at hz
    rcases hz with rfl | rfl | rfl | rfl
    · exact ⟨ha, Nat.zero_le _⟩
    · exact ⟨hb, Nat.zero_le _⟩
    · exact ⟨hc, Nat.zero_le _⟩
    · exact ⟨hd, Nat.zero_le _⟩
  intro c hc
  simp only [chgsB, List.mem_cons, List.not_mem_nil, or_false] at hc
  rcases hc with rfl | rfl
  · exact ⟨hr 7 1 7 2 (by unfold i64; decide) (by unfold i64; decide) (by unfold i64; decide) (by unfold i64; decide), by decide, by decide⟩
  · exact ⟨hr 7 5 7 2 (by unfold i64; decide) (by unfold i64; decide) (by unfold i64; decide) (by unfold i64; decide), by decide, by decide⟩
set_option maxRecDepth 100000 in
set_option maxHeartbeats 16000000 in
theorem step_begun (x : PA) (lb lo lcp : Nat) (ra1 ra2 : Option Addr) (rc1 rc2 : Nat) (w : World) (hp : planAt w countedP x) (c0 : w.cell? ⟨lb, lo, none⟩ = some (.int .i64 1)) (c1 : w.cell? ⟨lb, lo + 1, none⟩ = some (.slice ra1 4 rc1)) (c2 : w.cell? ⟨lb, lo + 2, none⟩ = some (.int .i64 1)) (c3 : w.cell? ⟨lb, lo + 3, none⟩ = some (.slice ra2 4 rc2)) (r1 : vl.rowAt w ra1 rowB1) (r2 : vl.rowAt w ra2 rowB2) :
    Calls Tryz.prog 12 #[planV countedP x, .slice none 0 0, .slice (some ⟨lb, lo, none⟩) 2 lcp] w fun e w' => (∃ gb gc tb tcap y, e = .returned (.tuple #[.slice (some ⟨gb, 0, none⟩) 1 gc, .slice (some ⟨tb, 0, none⟩) 1 tcap, .int .i64 0]) ∧ gsAt w' (some ⟨gb, 0, none⟩) [y] [grpB2] ∧ w'.cell? ⟨tb, 0, none⟩ = some (.int .i64 1)) ∧ Below w.heap.size w w' := by
  have hv : ch.chgsAt w (some ⟨lb, lo, none⟩) chgsB := fun i hi => by
    have hi2 : i = 0 ∨ i = 1 := by have : i < 2 := hi; omega
    rcases hi2 with rfl | rfl
    · exact ⟨lb, lo, ra1, rc1, rfl, c0, c1, r1⟩
    · exact ⟨lb, lo, ra2, rc2, rfl, c2, c3, r2⟩
  have KC : Hid (∀ w1, Below w.heap.size w w1 → Calls Tryz.prog 9 #[planV countedP x, .slice none 0 0] w1 fun e w' => e = .returned (.int .i64 0) ∧ Below w1.heap.size w1 w') := fun w1 hb => by
    have := check_any countedP x none 0 [] [] w1 wf_counted (planAt_below hp hb) ⟨rfl, fun i hi => absurd hi (Nat.not_lt_zero i), fun i hi => absurd hi (Nat.not_lt_zero i)⟩ (fun g hg => absurd hg (List.not_mem_nil)) (by decide)
    rw [errB_none] at this
    exact this
  have KG : Hid (∀ w1, Below w.heap.size w w1 → Calls Tryz.prog 37 #[planV countedP x, .slice (some ⟨lb, lo, none⟩) 2 lcp] w1 fun e w' => e = .returned (.int .i64 0) ∧ Below w1.heap.size w1 w') := fun w1 hb => by
    have := checkChanges_any countedP x (some ⟨lb, lo, none⟩) lcp chgsB w1 err_counted (planAt_below hp hb) (ch.chgsAt_below hv hb) wf_chgsB (by decide)
    rw [errB_chgs] at this
    exact this
  have KD1 : Hid (∀ W0 w1 ad cap, Below w.heap.size w W0 → Below W0.heap.size W0 w1 → w1.ownsRow W0.heap.size 53 3 (.slice ad 0 cap) 0 [] → Calls Tryz.prog 39 #[planV countedP x, .slice ad 0 cap, .agg #[.int .i64 1, .slice ra1 4 rc1]] w1 fun e w' => (∃ gb gc oa oc bb ta tc, e = .returned (.tuple #[.slice (some ⟨gb, 0, none⟩) 1 gc, .int .i64 0]) ∧ One w' W0.heap.size gb gc oa oc [cI 7] 1 bb ta tc [(cI 1, 1)]) ∧ Below W0.heap.size W0 w') := fun W0 w1 ad cap hb0 hb ho => do_new countedP x W0 w1 hb (planAt_below hp hb0) rfl rfl ad cap ho ra1 rc1 rowB1 (vl.rowAt_below r1 hb0) rfl
  have KD2 : Hid (∀ W0 w1 gb gc oa oc bb ta tc, Below w.heap.size w W0 → Below W0.heap.size W0 w1 → One w1 W0.heap.size gb gc oa oc [cI 7] 1 bb ta tc [(cI 1, 1)] → Calls Tryz.prog 39 #[planV countedP x, .slice (some ⟨gb, 0, none⟩) 1 gc, .agg #[.int .i64 1, .slice ra2 4 rc2]] w1 fun e w' => e = .returned (.tuple #[.slice (some ⟨gb, 0, none⟩) 1 gc, .int .i64 0]) ∧ (∃ ta' tc', One w' W0.heap.size gb gc oa oc [cI 7] 2 bb ta' tc' [(cI 1, 1), (cI 5, 1)]) ∧ Below W0.heap.size W0 w') := fun W0 w1 gb gc oa oc bb ta tc hb0 hb ho => do_again countedP x W0 w1 hb (planAt_below hp hb0) rfl rfl ho ra2 rc2 rowB2 (vl.rowAt_below r2 hb0) rfl cmpB_same (by simp) (fun t ht => by simp at ht; subst ht; exact cmpB_less) (by decide)
  have KR0 : Hid (∀ w1, Below w.heap.size w w1 → Calls Tryz.prog 20 #[planV countedP x, .slice none 0 0] w1 fun e w' => (∃ ad c, e = .returned (.slice ad 0 c)) ∧ Below w1.heap.size w1 w') := fun w1 hb => by
    refine (view_ok countedP x none 0 [] [] w1 (planAt_below hp hb) ⟨rfl, fun i hi => absurd hi (Nat.not_lt_zero i), fun i hi => absurd hi (Nat.not_lt_zero i)⟩ errB_none).mono ?_
    rintro e w' ⟨⟨ad, c, rfl, _⟩, hb⟩
    exact ⟨⟨ad, c, rfl⟩, hb⟩
  have KR1 : Hid (∀ w1 gb gc y, Below w.heap.size w w1 → gsAt w1 (some ⟨gb, 0, none⟩) [y] [grpB2] → Calls Tryz.prog 20 #[planV countedP x, .slice (some ⟨gb, 0, none⟩) 1 gc] w1 fun e w' => (∃ nb no c ra rl rc, e = .returned (.slice (some ⟨nb, no, none⟩) 1 c) ∧ 1 ≤ c ∧ w'.cell? ⟨nb, no, none⟩ = some (.slice ra rl rc)) ∧ Below w1.heap.size w1 w') := fun w1 gb gc y hb hg => by
    refine (rows_cap countedP x (some ⟨gb, 0, none⟩) gc [y] [grpB2] w1 (planAt_below hp hb) hg errB_one).mono ?_
    rintro e w' ⟨⟨ad, c, rfl, hva, hcap⟩, hb⟩
    obtain ⟨nb, no, ra, rc, e1, x1, _⟩ := hva 0 (by decide)
    subst e1
    exact ⟨⟨nb, no, c, ra, _, rc, rfl, hcap, x1⟩, hb⟩
  have HV0 : Hid (∀ w1, Below w.heap.size w w1 → w1.cell? ⟨lb, lo, none⟩ = some (.int .i64 1) ∧ w1.cell? ⟨lb, lo + 1, none⟩ = some (.slice ra1 4 rc1) ∧ w1.cell? ⟨lb, lo + 2, none⟩ = some (.int .i64 1) ∧ w1.cell? ⟨lb, lo + 2 + 1, none⟩ = some (.slice ra2 4 rc2)) := fun w1 hb => ⟨cell_later hb c0, cell_later hb c1, cell_later hb c2, cell_later hb c3⟩
  clear hp hv c0 c1 c2 c3 r1 r2
  obtain ⟨la, lc, rr, rc, lk, lkc, rk, rkc, ga, gc0, ag, ac⟩ := x
  unfold planV countedP at KC KG KD1 KD2 KR0 KR1 ⊢
  dsimp only [List.length_cons, List.length_nil] at KC KG KD1 KD2 KR0 KR1 ⊢
  simp only [Nat.zero_add, Nat.reduceAdd] at KC KG KD1 KD2 KR0 KR1 ⊢
  go_enter Tryz.func12, Tryz.ntmps12
  go_wp2_with fail
  generalize hV : (World.alloc w _) = V
  have hb0 : Below w.heap.size w V := by rw [← hV]; exact (Below.refl _ _).alloc (Nat.le_refl _) _
  have v0 : V.cell? ⟨w.heap.size, 0, none⟩ = some (.int .i64 1) := by subst hV; go_simp
  have v1 : V.cell? ⟨w.heap.size, 1, none⟩ = some (.int .i64 4) := by subst hV; go_simp
  have v2 : V.cell? ⟨w.heap.size, 2, none⟩ = some (.int .i64 (-5)) := by subst hV; go_simp
  have v3 : V.cell? ⟨w.heap.size, 3, none⟩ = some (.int .i64 5) := by subst hV; go_simp
  have v4 : V.cell? ⟨w.heap.size, 4, none⟩ = some (.int .i64 0) := by subst hV; go_simp
  have v5 : V.cell? ⟨w.heap.size, 5, none⟩ = some (.int .i64 2) := by subst hV; go_simp
  have v6 : V.cell? ⟨w.heap.size, 6, none⟩ = some (.slice la 2 lc) := by subst hV; go_simp
  have v7 : V.cell? ⟨w.heap.size, 7, none⟩ = some (.slice rr 2 rc) := by subst hV; go_simp
  have v8 : V.cell? ⟨w.heap.size, 8, none⟩ = some (.slice lk 1 lkc) := by subst hV; go_simp
  have v9 : V.cell? ⟨w.heap.size, 9, none⟩ = some (.slice rk 1 rkc) := by subst hV; go_simp
  have v10 : V.cell? ⟨w.heap.size, 10, none⟩ = some (.bool true) := by subst hV; go_simp
  have v11 : V.cell? ⟨w.heap.size, 11, none⟩ = some (.slice ga 1 gc0) := by subst hV; go_simp
  have v12 : V.cell? ⟨w.heap.size, 12, none⟩ = some (.slice ag 2 ac) := by subst hV; go_simp
  clear hV
  refine (KC.out _ hb0).mono ?_
  rintro e w1 ⟨rfl, hb1⟩
  have hbw : Below w.heap.size w w1 := hb0.trans (hb1.mono hb0.size)
  replace v0 := cell_later hb1 v0
  replace v1 := cell_later hb1 v1
  replace v2 := cell_later hb1 v2
  replace v3 := cell_later hb1 v3
  replace v4 := cell_later hb1 v4
  replace v5 := cell_later hb1 v5
  replace v6 := cell_later hb1 v6
  replace v7 := cell_later hb1 v7
  replace v8 := cell_later hb1 v8
  replace v9 := cell_later hb1 v9
  replace v10 := cell_later hb1 v10
  replace v11 := cell_later hb1 v11
  replace v12 := cell_later hb1 v12
  clear hb1 hb0 KC
  go_wp2_with (first
    | (go_at_call 37; refine (KG.out _ hbw).mono ?_; rintro e w2 ⟨rfl, hb2⟩; have hbw2 : Below w.heap.size w w2 := hbw.trans (hb2.mono hbw.size); replace v0 := cell_later hb2 v0; replace v1 := cell_later hb2 v1; replace v2 := cell_later hb2 v2; replace v3 := cell_later hb2 v3; replace v4 := cell_later hb2 v4; replace v5 := cell_later hb2 v5; replace v6 := cell_later hb2 v6; replace v7 := cell_later hb2 v7; replace v8 := cell_later hb2 v8; replace v9 := cell_later hb2 v9; replace v10 := cell_later hb2 v10; replace v11 := cell_later hb2 v11; replace v12 := cell_later hb2 v12)
    | (go_at_call 38; refine (copied_none _).mono ?_; rintro e w3 ⟨⟨ad, cap, rfl, hown⟩, hb3⟩))
  have HOW : Hid (w3.ownsRow w2.heap.size 53 3 (.slice ad 0 cap) 0 []) := hown
  clear KG hown
  go_loopw [11, 32] (fun v t wr => (t = .int .i64 0 ∧ v = .slice ad 0 cap ∧ wr = w3) ∨ (t = .int .i64 1 ∧ ∃ gb gc oa oc bb ta tc, v = .slice (some ⟨gb, 0, none⟩) 1 gc ∧ Hid (One wr w2.heap.size gb gc oa oc [cI 7] 1 bb ta tc [(cI 1, 1)]) ∧ Below w2.heap.size w2 wr) ∨ (t = .int .i64 2 ∧ ∃ gb gc oa oc bb ta tc, v = .slice (some ⟨gb, 0, none⟩) 1 gc ∧ Hid (One wr w2.heap.size gb gc oa oc [cI 7] 2 bb ta tc [(cI 1, 1), (cI 5, 1)]) ∧ Below w2.heap.size w2 wr)) (fun _ t _ => 2 - (intOf t).toNat)
  case atStart => exact .inl ⟨rfl, rfl, rfl⟩
  case round =>
    rcases hrel with ⟨rfl, rfl, rfl⟩ | ⟨rfl, gb, gc, oa, oc, bb, ta, tc, rfl, HR, hbr⟩ | ⟨rfl, gb, gc, oa, oc, bb, ta, tc, rfl, HR, hbr⟩
    · obtain ⟨q0, q1, q2, q3⟩ := HV0.out wr (hbw2.trans (hb3.mono hbw2.size))
      replace v0 := cell_later hb3 v0
      replace v1 := cell_later hb3 v1
      replace v2 := cell_later hb3 v2
      replace v3 := cell_later hb3 v3
      replace v4 := cell_later hb3 v4
      replace v5 := cell_later hb3 v5
      replace v6 := cell_later hb3 v6
      replace v7 := cell_later hb3 v7
      replace v8 := cell_later hb3 v8
      replace v9 := cell_later hb3 v9
      replace v10 := cell_later hb3 v10
      replace v11 := cell_later hb3 v11
      replace v12 := cell_later hb3 v12
      have lw : w.heap.size < wr.heap.size := World.block_lt_of_cell? _ _ v0
      have lw2 : lb < wr.heap.size := World.block_lt_of_cell? _ _ q0
      go_wp2_with (go_at_call 39; refine (KD1.out w2 _ ad cap hbw2 (hb3.alloc hb3.size _) (World.ownsRow.alloc HOW.out _)).mono ?_; rintro e w5 ⟨⟨gb, gc, oa, oc, bb, ta, tc, rfl, ho5⟩, hb5⟩)
      go_roundw
      case rel => exact .inr (.inl ⟨rfl, gb, gc, oa, oc, bb, ta, tc, rfl, ho5, hb5⟩)
      case measure => simp [intOf]
    · obtain ⟨q0, q1, q2, q3⟩ := HV0.out wr (hbw2.trans (hbr.mono hbw2.size))
      replace v0 := cell_later hbr v0
      replace v1 := cell_later hbr v1
      replace v2 := cell_later hbr v2
      replace v3 := cell_later hbr v3
      replace v4 := cell_later hbr v4
      replace v5 := cell_later hbr v5
      replace v6 := cell_later hbr v6
      replace v7 := cell_later hbr v7
      replace v8 := cell_later hbr v8
      replace v9 := cell_later hbr v9
      replace v10 := cell_later hbr v10
      replace v11 := cell_later hbr v11
      replace v12 := cell_later hbr v12
      have lw : w.heap.size < wr.heap.size := World.block_lt_of_cell? _ _ v0
      have lw2 : lb < wr.heap.size := World.block_lt_of_cell? _ _ q0
      go_wp2_with (go_at_call 39; refine (KD2.out w2 _ gb gc oa oc bb ta tc hbw2 (hbr.alloc hbr.size _) (HR.out.below ((Below.refl _ _).alloc (Nat.le_refl _) _))).mono ?_; rintro e w5 ⟨rfl, ⟨ta5, tc5, ho5⟩, hb5⟩)
      go_roundw
      case rel => exact .inr (.inr ⟨rfl, gb, gc, oa, oc, bb, ta5, tc5, rfl, ho5, hb5⟩)
      case measure => simp [intOf]
    · have hbx : Below w.heap.size w wr := hbw2.trans (hbr.mono hbw2.size)
      replace v0 := cell_later hbr v0
      replace v1 := cell_later hbr v1
      replace v2 := cell_later hbr v2
      replace v3 := cell_later hbr v3
      replace v4 := cell_later hbr v4
      replace v5 := cell_later hbr v5
      replace v6 := cell_later hbr v6
      replace v7 := cell_later hbr v7
      replace v8 := cell_later hbr v8
      replace v9 := cell_later hbr v9
      replace v10 := cell_later hbr v10
      replace v11 := cell_later hbr v11
      replace v12 := cell_later hbr v12
      have HGS : Hid (gsAt wr (some ⟨gb, 0, none⟩) [oneX oa oc bb ta tc [(cI 1, 1), (cI 5, 1)]] [grpB2]) := HR.out.at
      clear HR KD1 KD2 HV0 HOW hb3
      have lw : w.heap.size < wr.heap.size := World.block_lt_of_cell? _ _ v0
      go_wp2
      go_region_held3 (fun w' => w'.cell? ⟨w.heap.size, 0, none⟩ = some (.int .i64 1) ∧ w'.cell? ⟨w.heap.size, 1, none⟩ = some (.int .i64 4) ∧ w'.cell? ⟨w.heap.size, 2, none⟩ = some (.int .i64 (-5)) ∧ w'.cell? ⟨w.heap.size, 3, none⟩ = some (.int .i64 5) ∧ w'.cell? ⟨w.heap.size, 4, none⟩ = some (.int .i64 0) ∧ w'.cell? ⟨w.heap.size, 5, none⟩ = some (.int .i64 2) ∧ w'.cell? ⟨w.heap.size, 6, none⟩ = some (.slice la 2 lc) ∧ w'.cell? ⟨w.heap.size, 7, none⟩ = some (.slice rr 2 rc) ∧ w'.cell? ⟨w.heap.size, 8, none⟩ = some (.slice lk 1 lkc) ∧ w'.cell? ⟨w.heap.size, 9, none⟩ = some (.slice rk 1 rkc) ∧ w'.cell? ⟨w.heap.size, 10, none⟩ = some (.bool true) ∧ w'.cell? ⟨w.heap.size, 11, none⟩ = some (.slice ga 1 gc0) ∧ w'.cell? ⟨w.heap.size, 12, none⟩ = some (.slice ag 2 ac)) (first | exact ⟨cell_later hyT v0, cell_later hyT v1, cell_later hyT v2, cell_later hyT v3, cell_later hyT v4, cell_later hyT v5, cell_later hyT v6, cell_later hyT v7, cell_later hyT v8, cell_later hyT v9, cell_later hyT v10, cell_later hyT v11, cell_later hyT v12⟩ | exact ⟨cell_later hyN v0, cell_later hyN v1, cell_later hyN v2, cell_later hyN v3, cell_later hyN v4, cell_later hyN v5, cell_later hyN v6, cell_later hyN v7, cell_later hyN v8, cell_later hyN v9, cell_later hyN v10, cell_later hyN v11, cell_later hyN v12⟩ | exact ⟨cell_later hyM v0, cell_later hyM v1, cell_later hyM v2, cell_later hyM v3, cell_later hyM v4, cell_later hyM v5, cell_later hyM v6, cell_later hyM v7, cell_later hyM v8, cell_later hyM v9, cell_later hyM v10, cell_later hyM v11, cell_later hyM v12⟩ | go_keep)
        (first
          | (go_at_call 40; refine (told_new _ _ _ _ _ _ _ _ _ _ (by first | exact nowc | exact cell_later hbN nowc) hc1).mono ?_; rintro e yT ⟨⟨tb, tcap, rfl, htb⟩, hbT⟩; have hyT : Below wr.heap.size wr yT := by first | exact hyN.trans (hbT.mono hyN.size) | exact hyM.trans (hbT.mono hyM.size))
          | (go_at_call 20; (with_reducible refine (KR0.out _ (by first | exact hbx.trans (hyM.mono hbx.size) | exact hbx.drew)).mono ?_); rintro e yN ⟨⟨adN, cN, rfl⟩, hbN⟩; have hyN : Below wr.heap.size wr yN := by first | exact hyM.trans (hbN.mono hyM.size) | exact (Below.refl _ _).drew.trans hbN)
          | (go_at_call 20; (with_reducible refine (KR1.out _ gb gc (oneX oa oc bb ta tc [(cI 1, 1), (cI 5, 1)]) (by first | exact hbx.trans (hyN.mono hbx.size) | exact hbx.drew) (by first | exact HGS.out.below hyN | exact HGS.out.below (Below.refl _ _).drew)).mono ?_); rintro e yM ⟨⟨nb, no, nc, nra, nrl, nrc, rfl, hc1, nowc⟩, hbM⟩; have hyM : Below wr.heap.size wr yM := by first | exact hyN.trans (hbM.mono hyN.size) | exact (Below.refl _ _).drew.trans hbM))
      all_goals
        go_wp2
        exact bodyPost_ret (v := .tuple #[.slice (some ⟨gb, 0, none⟩) 1 gc, .slice (some ⟨tb, 0, none⟩) 1 tcap, .int .i64 0]) (by simp [results, Tryz.results12, go_sem]) rfl ⟨⟨gb, gc, tb, tcap, _, rfl, HGS.out.below hyT, htb⟩, hbx.trans (hyT.mono hbx.size)⟩
end Go.Proofs.YtbfbgdinhiglaaaGreat.gr
