/- gather: the counts of a view in a map of one's own, or what is wrong with the view. -/
import Derived.Test.YtkjiaeolodemlafChgView
import Derived.Deep.QuietTactic
import Derived.BigQuiet
namespace Go.Proofs.Ytkjiaeolodemlaf.ch
open Go.ChangeShapes Go.WideShapes Go.ChangeAt Go.RowKit Go.Maps Go.WideMaps
open vl
set_option linter.unusedVariables false
set_option linter.unusedSimpArgs false

theorem make_map (n : Int) (w : World) : (Instr.makeMap 40 (some (.int .i64 n))).run Try.prog w = .ok (.map (some w.heap.size)) (w.alloc (.map #[] 0)) := by
  unfold Instr.makeMap
  simp [run_underlying Try.underlying40, go_sem, asInt, Result.andThen]
theorem cmap_made (w : World) : cmap (w.alloc (.map #[] 0)) w.heap.size 0 [] := World.ownsMap_made _ _ _ _
/-- what was put in -/
theorem cmap_put {w' : World} {B nn : Nat} {kv : KV} {k : List UInt8} {n : Int} (h : w'.ownsMap Try.prog 9 (plainElem (H := Unit) Try.prog 3) B (nn + 1) ((toD kv).put (.string k) (.lit (.int .i64 n)))) : cmap w' B (nn + 1) (putK kv k n) := by
  rw [toD_put] at h; exact h

theorem vl_rowOk {r : List Cel} (h : keyErr r = 0) (hw : wfRow r) : rowOk r := by
  unfold keyErr at h
  split at h
  · cases h
  · rename_i h8
    exact ⟨by omega, fun c hc => ⟨all_ok h c hc, hw c hc⟩⟩

theorem upto_succ {p : Nat → Prop} {j : Nat} (h : ∀ i, i < j → p i) (hj : p j) : ∀ i, i ≤ j → p i := fun i hi => by
  rcases Nat.lt_or_ge i j with h1 | h1
  · exact h i h1
  · rw [show i = j by omega]; exact hj

theorem wrap_is (x : Int) : IntKind.i64.wrap x = (x + 9223372036854775808) % 18446744073709551616 - 9223372036854775808 := by
  simp only [IntKind.wrap, IntKind.signed, IntKind.bits]
  simp
  split <;> omega

def gatherRes (v : List Cnt) (base : Nat) (e : Ending) (w' : World) : Prop :=
  (viewErr v = 0 ∧ viewOk v ∧ ∃ B, e = .returned (.tuple #[.map (some B), .int .i64 0]) ∧ base ≤ B ∧ cmap w' B v.length (kvOf v)) ∨
  (viewErr v ≠ 0 ∧ e = .returned (.tuple #[.map none, .int .i64 (viewErr v)]))
theorem ret_map {a b : Int} (h : a = b) : Ending.returned (.tuple #[.map none, .int .i64 a]) = .returned (.tuple #[.map none, .int .i64 b]) := by rw [h]

attribute [local go_sem ↓] Go.wp_at_zero Go.wp_at_succ
set_option maxRecDepth 100000 in
set_option maxHeartbeats 8000000 in
theorem gather_any (a : Option Addr) (cap : Nat) (v : List Cnt) (w : World) (hv : viewAt w a v) (hw : wfView v) (hl : v.length ≤ 9223372036854775807) :
    Calls Try.prog 21 #[.slice a v.length cap] w fun e w' => gatherRes v w.heap.size e w' ∧ Below w.heap.size w w' := by
  obtain ⟨n, hn⟩ : ∃ n, v.length = n := ⟨_, rfl⟩
  have HN : Hid (v.length = n) := hn
  rw [hn] at hl ⊢
  clear hn
  have hmm := make_map
  by_cases h4 : 4096 < n
  · have HE : Hid (viewErr v = 2) := viewErr_many (by rw [HN.out]; exact h4)
    go_enter Try.func21, Try.ntmps21
    go_wp2
    go_ret2
    exact ⟨.inr ⟨by rw [HE.out]; decide, ret_map HE.out.symm⟩, Below.refl _ _⟩
  · go_enter Try.func21, Try.ntmps21
    go_wp2
    go_loopw [17] (fun i wr => ∃ k : Nat, k ≤ n ∧ i = .int .i64 k ∧ cmap wr w.heap.size k (kvOf (v.take k)) ∧ Below w.heap.size w wr ∧ (∀ i, i < k → okAt v i)) (fun i _ => n - (intOf i).toNat)
    case atStart => exact ⟨0, by omega, rfl, cmap_made w, (Below.refl _ _).alloc (Nat.le_refl _) _, fun i hi => absurd hi (Nat.not_lt_zero i)⟩
    case round =>
      obtain ⟨k, hk, rfl, hcm, hnx, hall⟩ := hrel
      have HC : Hid (cmap wr w.heap.size k (kvOf (v.take k))) := hcm
      have HA : Hid (∀ i, i < k → okAt v i) := hall
      have hsz := hnx.size
      have hBlt := cmap_lt hcm
      clear hcm hall
      by_cases hlt : k < n
      · have hkv : k < v.length := by rw [HN.out]; exact hlt
        obtain ⟨b, o, ra, rc, e, x1, x2, x3⟩ := hv k hkv
        subst e
        obtain ⟨ww1, ww2, ww3, ww4⟩ := wfv_at hw k hkv
        have q1 := cell_later hnx x1
        have q3 := cell_later hnx x3
        have HR : Hid (vl.rowAt wr ra (v.getD k default).r) := rowAt_below x2 hnx
        have i1 : (0 : Int) ≤ (k : Int) := by omega
        have i2 : (k : Int) < (n : Int) := by omega
        have HB : Hid (¬ okAt v k → viewErr v = 1) := viewErr_bad (by rw [HN.out]; exact h4) k hkv
        have HS : Hid ((∀ i, i ≤ k → okAt v i) → putK (kvOf (v.take k)) (encR (v.getD k default).r) (v.getD k default).n = kvOf (v.take (k + 1))) := kv_step hw k hkv
        have HOK : Hid (okAt v k → rowOk (v.getD k default).r) := fun h => ok_row hw hkv h
        have HDEF : Hid (okAt v k ↔ keyErr (v.getD k default).r = 0 ∧ 1 ≤ (v.getD k default).n ∧ (v.getD k default).n ≤ 1073741824 ∧ (0 < k → cmpRows (v.getD (k - 1) default).r (v.getD k default).r < 0)) := Iff.rfl
        obtain ⟨⟨r, m⟩, hcv⟩ : ∃ c, v.getD k default = c := ⟨_, rfl⟩
        rw [hcv] at q1 q3 HR HS HOK HDEF ww1 ww2 ww3 ww4
        dsimp only at q1 q3 HR HS HOK HDEF ww1 ww2 ww3 ww4
        clear x1 x2 x3
        obtain ⟨rl, hrl⟩ : ∃ l, r.length = l := ⟨_, rfl⟩
        rw [hrl] at q1
        have KK : Hid (∀ w, vl.rowAt w ra r → Calls Try.prog 39 #[.slice ra rl rc] w fun e w' => e = .returned (.tuple #[.string (keyS r), .int .i64 (keyErr r)]) ∧ Below w.heap.size w w') := by
          subst hrl; exact fun w h => key_any ra rc r w h ww1 ww2
        by_cases e1 : keyErr r = 0
        · by_cases e2 : m < 1
          · have HE : Hid (viewErr v = 1) := HB.out (fun h => by have := (HDEF.out.1 h).2.1; omega)
            go_wp2_with (go_at_call 39; refine (KK.out _ (rowAt_below HR.out ((Below.refl _ _).alloc (Nat.le_refl _) _))).mono ?_; rintro e wa ⟨rfl, hba⟩; have g0 := cell_later hba (a := ⟨wr.heap.size, 0, none⟩) (v := .slice ra rl rc) (by go_simp); have g1 := cell_later hba (a := ⟨wr.heap.size, 1, none⟩) (v := .int .i64 m) (by go_simp); have hla := (hnx.alloc hsz _).trans (hba.mono (by simp; omega)); have HCW := cmap_below (cmap_alloc HC.out _) hba; have hbw : Below wr.heap.size wr wa := ((Below.refl _ _).alloc (Nat.le_refl _) _).trans (hba.mono (by simp)))
            go_ret2
            exact ⟨.inr ⟨by rw [HE.out]; decide, ret_map HE.out.symm⟩, hla⟩
          · have e2' : decide (m < 1) = false := decide_eq_false e2
            by_cases e3 : 1073741824 < m
            · have HE : Hid (viewErr v = 1) := HB.out (fun h => by have := (HDEF.out.1 h).2.2.1; omega)
              go_wp2_with (go_at_call 39; refine (KK.out _ (rowAt_below HR.out ((Below.refl _ _).alloc (Nat.le_refl _) _))).mono ?_; rintro e wa ⟨rfl, hba⟩; have g0 := cell_later hba (a := ⟨wr.heap.size, 0, none⟩) (v := .slice ra rl rc) (by go_simp); have g1 := cell_later hba (a := ⟨wr.heap.size, 1, none⟩) (v := .int .i64 m) (by go_simp); have hla := (hnx.alloc hsz _).trans (hba.mono (by simp; omega)); have HCW := cmap_below (cmap_alloc HC.out _) hba; have hbw : Below wr.heap.size wr wa := ((Below.refl _ _).alloc (Nat.le_refl _) _).trans (hba.mono (by simp)))
              go_ret2
              exact ⟨.inr ⟨by rw [HE.out]; decide, ret_map HE.out.symm⟩, hla⟩
            · have e3' : decide (1073741824 < m) = false := decide_eq_false e3
              have hok8 : rowOk r := vl_rowOk e1 ww1
              have HKS : Hid ((keyS r).data.toList = encR r) := keyS_ok hok8
              have HKL : Hid ((keyS r).size ≤ maxLen) := Nat.le_trans (keyS_len hok8) (by unfold maxLen; omega)
              obtain ⟨ks, hks⟩ : ∃ s, keyS r = s := ⟨_, rfl⟩
              rw [hks] at KK HKS HKL
              have HKY : Hid (keyOf Try.prog 9 (.string ks) = some (.string (encR r))) := by
                have h := keyOf_string_mk Try.underlying9 HKL.out
                rw [HKS.out] at h
                exact h
              clear hks hok8
              by_cases e4 : k = 0
              · subst e4
                simp only [Nat.zero_mul, Nat.add_zero] at q1 q3
                have HE : Hid (okAt v 0) := HDEF.out.2 ⟨e1, by omega, by omega, fun h => absurd h (by omega)⟩
                go_wp2_with (go_at_call 39; refine (KK.out _ (rowAt_below HR.out ((Below.refl _ _).alloc (Nat.le_refl _) _))).mono ?_; rintro e wa ⟨rfl, hba⟩; have g0 := cell_later hba (a := ⟨wr.heap.size, 0, none⟩) (v := .slice ra rl rc) (by go_simp); have g1 := cell_later hba (a := ⟨wr.heap.size, 1, none⟩) (v := .int .i64 m) (by go_simp); have hla := (hnx.alloc hsz _).trans (hba.mono (by simp; omega)); have HCW := cmap_below (cmap_alloc HC.out _) hba; have hbw : Below wr.heap.size wr wa := ((Below.refl _ _).alloc (Nat.le_refl _) _).trans (hba.mono (by simp)))
                go_quiet (fail)
                have HCD : cmap (wa.drewN nq) w.heap.size 0 (kvOf (v.take 0)) := HCW
                have hld := below_drewN hla nq
                go_wp2_with (at_mapUpdate; refine wpList_mapUpdate_own _ rfl (.tmp 54) (.tmp 55) (.tmp 57) 40 rfl 9 3 law Try.underlying40 _ w.heap.size 0 _ rfl HCD (by unfold maxLen; omega) _ _ (.string (encR r)) rfl rfl HKY.out _ [] (plainElem_int Try.underlying3 (WalkArith.wf_i64 (by omega))) ?_; intro w1 hown1 hgrow1)
                go_roundw
                case rel => exact ⟨0 + 1, by omega, by go_num, by rw [← HS.out (fun i hi => by rw [show i = 0 by omega]; exact HE.out)]; exact cmap_put hown1, hld.grown hgrow1 hld.size (fun j hj => by cases hj; exact Nat.le_refl _), fun i hi => by rw [show i = 0 by omega]; exact HE.out⟩
                case measure => simp [intOf]; omega
              · obtain ⟨j, rfl⟩ : ∃ j, k = j + 1 := ⟨k - 1, by omega⟩
                have hjv : j < v.length := by rw [HN.out]; omega
                obtain ⟨b', o', pa, pc, e', y1, y2, y3⟩ := hv j hjv
                cases e'
                have p1 := cell_later hnx y1
                have HPR : Hid (vl.rowAt wr pa (v.getD j default).r) := rowAt_below y2 hnx
                obtain ⟨vv1, vv2, _, _⟩ := wfv_at hw j hjv
                have HD2 : Hid (okAt v (j + 1) ↔ keyErr r = 0 ∧ 1 ≤ m ∧ m ≤ 1073741824 ∧ (cmpRows (v.getD j default).r r < 0)) := by
                  show okAt v (j + 1) ↔ _
                  rw [HDEF.out]
                  simp
                obtain ⟨pr, hpr⟩ : ∃ c, (v.getD j default).r = c := ⟨_, rfl⟩
                rw [hpr] at p1 HPR HD2 vv1 vv2
                clear y1 y2 y3 hpr HDEF e4
                obtain ⟨pl, hpl⟩ : ∃ l, pr.length = l := ⟨_, rfl⟩
                rw [hpl] at p1
                have KR : Hid (∀ w, vl.rowAt w pa pr → vl.rowAt w ra r → Calls Try.prog 40 #[.slice pa pl pc, .slice ra rl rc] w fun e w' => e = .returned (.int .i64 (cmpRows pr r)) ∧ Below w.heap.size w w') := by
                  subst hpl hrl; exact fun w h h' => rows_any pa ra pc rc pr r w h h' vv2 ww2
                have hj1 : (0 : Int) < ((j : Int) + 1) := by omega
                have hj2 : ((j : Int)) < (n : Int) := by omega
                have hj3 : (0 : Int) ≤ (j : Int) := by omega
                have hwj1 : IntKind.i64.wrap ((j : Int) + 1 - 1) = (j : Int) := by rw [wrap_is]; omega
                have hwj2 : IntKind.i64.wrap (j : Int) = (j : Int) := by rw [wrap_is]; omega
                obtain ⟨cc, hcc⟩ : ∃ c, cmpRows pr r = c := ⟨_, rfl⟩
                rw [hcc] at KR HD2
                clear hcc hpl hrl vv1 vv2
                by_cases e5 : 0 ≤ cc
                · have HE : Hid (viewErr v = 1) := HB.out (fun h => by have := (HD2.out.1 h).2.2.2; omega)
                  go_wp2_with (go_at_call 39; refine (KK.out _ (rowAt_below HR.out ((Below.refl _ _).alloc (Nat.le_refl _) _))).mono ?_; rintro e wa ⟨rfl, hba⟩; have g0 := cell_later hba (a := ⟨wr.heap.size, 0, none⟩) (v := .slice ra rl rc) (by go_simp); have g1 := cell_later hba (a := ⟨wr.heap.size, 1, none⟩) (v := .int .i64 m) (by go_simp); have hla := (hnx.alloc hsz _).trans (hba.mono (by simp; omega)); have HCW := cmap_below (cmap_alloc HC.out _) hba; have hbw : Below wr.heap.size wr wa := ((Below.refl _ _).alloc (Nat.le_refl _) _).trans (hba.mono (by simp)))
                  have p1a := cell_later hbw p1
                  have HPA : Hid (vl.rowAt wa.drew pa pr) := rowAt_below HPR.out hbw.drew
                  have HRA : Hid (vl.rowAt wa.drew ra r) := rowAt_below HR.out hbw.drew
                  go_region_held3 (fun w' => w'.cell? ⟨b, o + j * 2, none⟩ = some (.slice pa pl pc) ∧ w'.cell? ⟨wr.heap.size, 0, none⟩ = some (.slice ra rl rc)) (first | go_keep | exact ⟨cell_later hbr p1a, cell_later hbr g0⟩)
                    (first | (go_at_call 40; refine (KR.out wa.drew HPA.out HRA.out).mono ?_; rintro e wq ⟨rfl, hbr⟩))
                  all_goals
                    go_wp2
                    go_ret2
                    exact ⟨.inr ⟨by rw [HE.out]; decide, ret_map HE.out.symm⟩, by first | exact hla.trans (hbr.mono hla.size) | exact hla.drew.trans (hbr.mono hla.size)⟩
                · have HE : Hid (okAt v (j + 1)) := HD2.out.2 ⟨e1, by omega, by omega, by omega⟩
                  have e5' : ¬ 0 ≤ cc := e5
                  go_wp2_with (go_at_call 39; refine (KK.out _ (rowAt_below HR.out ((Below.refl _ _).alloc (Nat.le_refl _) _))).mono ?_; rintro e wa ⟨rfl, hba⟩; have g0 := cell_later hba (a := ⟨wr.heap.size, 0, none⟩) (v := .slice ra rl rc) (by go_simp); have g1 := cell_later hba (a := ⟨wr.heap.size, 1, none⟩) (v := .int .i64 m) (by go_simp); have hla := (hnx.alloc hsz _).trans (hba.mono (by simp; omega)); have HCW := cmap_below (cmap_alloc HC.out _) hba; have hbw : Below wr.heap.size wr wa := ((Below.refl _ _).alloc (Nat.le_refl _) _).trans (hba.mono (by simp)))
                  have p1a := cell_later hbw p1
                  have HPA : Hid (vl.rowAt wa.drew pa pr) := rowAt_below HPR.out hbw.drew
                  have HRA : Hid (vl.rowAt wa.drew ra r) := rowAt_below HR.out hbw.drew
                  go_region_held3 (fun w' => w'.cell? ⟨b, o + j * 2, none⟩ = some (.slice pa pl pc) ∧ w'.cell? ⟨wr.heap.size, 0, none⟩ = some (.slice ra rl rc)) (first | go_keep | exact ⟨cell_later hbr p1a, cell_later hbr g0⟩)
                    (first | (go_at_call 40; refine (KR.out wa.drew HPA.out HRA.out).mono ?_; rintro e wq ⟨rfl, hbr⟩))
                  all_goals
                    have hlq : Below w.heap.size w wq := by first | exact hla.trans (hbr.mono hla.size) | exact hla.drew.trans (hbr.mono hla.size)
                    have g1q := cell_later hbr g1
                    have HCD : cmap wa.drew w.heap.size (j + 1) (kvOf (v.take (j + 1))) := HCW
                    have HCQ := cmap_below HCD hbr
                    go_wp2_with (at_mapUpdate; refine wpList_mapUpdate_own _ rfl (.tmp 54) (.tmp 55) (.tmp 57) 40 rfl 9 3 law Try.underlying40 _ w.heap.size (j + 1) _ rfl HCQ (by unfold maxLen; omega) _ _ (.string (encR r)) rfl rfl HKY.out _ [] (plainElem_int Try.underlying3 (WalkArith.wf_i64 (by omega))) ?_; intro w1 hown1 hgrow1)
                    go_roundw
                    case rel => exact ⟨j + 1 + 1, by omega, by go_num, by rw [← HS.out (upto_succ HA.out HE.out)]; exact cmap_put hown1, hlq.grown hgrow1 hlq.size (fun x hx => by cases hx; exact Nat.le_refl _), fun i hi => by
                      rcases Nat.lt_or_ge i (j + 1) with h | h
                      · exact HA.out i h
                      · rw [show i = j + 1 by omega]; exact HE.out⟩
                    case measure => simp [intOf]; omega
        · have e1' : (keyErr r == 0) = false := by simpa using e1
          have HE : Hid (viewErr v = 1) := HB.out (fun h => e1 (HDEF.out.1 h).1)
          go_wp2_with (go_at_call 39; refine (KK.out _ (rowAt_below HR.out ((Below.refl _ _).alloc (Nat.le_refl _) _))).mono ?_; rintro e wa ⟨rfl, hba⟩; have g0 := cell_later hba (a := ⟨wr.heap.size, 0, none⟩) (v := .slice ra rl rc) (by go_simp); have g1 := cell_later hba (a := ⟨wr.heap.size, 1, none⟩) (v := .int .i64 m) (by go_simp); have hla := (hnx.alloc hsz _).trans (hba.mono (by simp; omega)); have HCW := cmap_below (cmap_alloc HC.out _) hba; have hbw : Below wr.heap.size wr wa := ((Below.refl _ _).alloc (Nat.le_refl _) _).trans (hba.mono (by simp)))
          go_ret2
          exact ⟨.inr ⟨by rw [HE.out]; decide, ret_map HE.out.symm⟩, hla⟩
      · have hkn : k = n := by omega
        have HT : Hid (v.take k = v) := List.take_of_length_le (by rw [HN.out]; omega)
        have HO : Hid (viewOk v) := ⟨by rw [HN.out]; omega, fun i hi => HA.out i (by rw [HN.out] at hi; omega)⟩
        go_wp2
        go_ret2
        exact ⟨.inl ⟨viewErr_ok HO.out, HO.out, w.heap.size, rfl, Nat.le_refl _, by have h := HC.out; rw [HT.out, hkn] at h; rw [HN.out]; exact h⟩, hnx⟩
end Go.Proofs.Ytkjiaeolodemlaf.ch
