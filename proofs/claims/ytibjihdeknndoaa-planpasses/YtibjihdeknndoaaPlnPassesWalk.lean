/- PlanPasses answers true: who stands at, or ahead of, Gone meets nobody who comes behind the mark. -/
import Derived.Test.YtibjihdeknndoaaPlnBegun2
namespace Go.Proofs.Ytibjihdeknndoaa.pl
open Go.ChangeShapes Go.WideShapes Go.ChangeAt Go.RowKit
open vl
set_option linter.unusedVariables false
set_option linter.unusedSimpArgs false
theorem start_mul (t s : Int) : tm.start t s = s * (t / s) := by
  unfold tm.start
  have := Int.mul_ediv_add_emod t s
  omega
theorem start_apart {t u m s : Int} (hs : 1 ≤ s) (h1 : t ≤ tm.start (m + 1) s - 1) (h2 : m < u) : tm.start t s ≠ tm.start u s := by
  intro e
  have b1 := tm.start_bd t s (by omega)
  have b2 := tm.start_bd u s (by omega)
  have b3 := tm.start_bd (m + 1) s (by omega)
  have hlt : tm.start t s < tm.start (m + 1) s := by omega
  rw [start_mul t s, start_mul (m + 1) s] at hlt
  have hab : t / s < (m + 1) / s := Int.lt_of_mul_lt_mul_left hlt (by omega)
  have hle : s * (t / s + 1) ≤ s * ((m + 1) / s) := Int.mul_le_mul_of_nonneg_left (by omega) (by omega)
  rw [Int.mul_add, Int.mul_one, ← start_mul t s, ← start_mul (m + 1) s] at hle
  omega
/-- do a left and a right time meet? -/
def meetP (p : Pln) (l r : Int) : Bool := if p.kind = 1 then tm.meetB l r p.low p.high else decide (tm.start l p.size = tm.start r p.size)
theorem passes {p : Pln} {side mark t u : Int} (h0 : planErr p = 0) (hs : side = 1 ∨ side = 2) (hm : fit mark) (hk : p.kind ≠ 3) (ht : fit t) (hu : fit u) (h1 : t ≤ goneAt p side mark) (h2 : mark < u) : meetP p (if side = 2 then u else t) (if side = 2 then t else u) = false := by
  have hok := planErr_ok h0
  have hk3 := hok.1.1
  unfold goneAt at h1
  unfold meetP
  unfold fit at hu hm
  by_cases k1 : p.kind = 1
  · rw [if_pos k1] at h1
    rw [if_pos k1]
    unfold untilV at h1
    rw [if_neg (by omega)] at h1
    unfold tm.meetB
    refine decide_eq_false ?_
    rcases hs with rfl | rfl
    · simp only [show ¬ (1 : Int) = 2 by decide, if_false] at h1 ⊢
      omega
    · simp only [if_true] at h1 ⊢
      omega
  · have k2 : p.kind = 2 := by omega
    have hsz := ok_2 h0 k2
    rw [if_neg k1, if_pos k2] at h1
    rw [if_neg k1]
    unfold winV at h1
    rw [if_neg (by omega)] at h1
    refine decide_eq_false ?_
    have := start_apart hsz.1 h1 h2
    rcases hs with rfl | rfl
    · simp only [show ¬ (1 : Int) = 2 by decide, if_false]
      exact this
    · simp only [if_true]
      exact fun e => this e.symm
set_option maxRecDepth 10000 in
set_option maxHeartbeats 8000000 in
theorem passes_walk (p : Pln) (x : PA) (side mark t u : Int) (w : World) (hw : wfPlan p) (hp : planAt w p x) :
    Calls Try.prog 6 #[planV p x, .int .i64 side, .int .i64 mark, .int .i64 t, .int .i64 u] w fun e w' => e = .returned (.bool true) ∧ Below w.heap.size w w' := by
  have K1 : Hid (∀ w1, Below w.heap.size w w1 → Calls Try.prog 17 #[planV p x, .int .i64 side, .int .i64 mark] w1 fun e w' => e = .returned (.tuple #[.int .i64 (goneV p side mark), .int .i64 (goneErr p side mark)]) ∧ Below w1.heap.size w1 w') := fun w1 hb => gone_any p x side mark w1 hw (planAt_below hp hb)
  have HALL : Hid (goneErr p side mark = 0 → p.kind ≠ 3 → tm.fitB t = true → tm.fitB u = true → (side = 1 ∨ side = 2) ∧ (goneV p side mark < t ∨ u ≤ mark ∨ meetP p (if side = 2 then u else t) (if side = 2 then t else u) = false) ∧ (p.kind = 1 → fit p.low ∧ fit p.high ∧ p.low ≤ p.high) ∧ (p.kind ≠ 1 → 1 ≤ p.size ∧ p.size ≤ 1099511627776)) := fun he hk ht hu => by
    have he' := he
    unfold goneErr at he'
    by_cases h0 : planErr p = 0
    · rw [if_pos h0] at he'
      cases hsb : sideB side with
      | false => rw [hsb] at he'; cases he'
      | true =>
        rw [hsb, if_pos rfl] at he'
        cases hfb : tm.fitB mark with
        | false => rw [hfb] at he'; cases he'
        | true =>
          have hsd : side = 1 ∨ side = 2 := of_decide_eq_true hsb
          have hv : goneV p side mark = goneAt p side mark := if_pos he
          have hok := planErr_ok h0
          refine ⟨hsd, ?_, fun h1 => ⟨(ok_1 h0 h1).1, (ok_1 h0 h1).2, hok.2.2.2.2.1⟩, fun h1 => ok_2 h0 (by have := hok.1.1; omega)⟩
          by_cases g1 : goneV p side mark < t
          · exact .inl g1
          · by_cases g2 : u ≤ mark
            · exact .inr (.inl g2)
            · exact .inr (.inr (passes h0 hsd (fit_fitB.2 hfb) hk (fit_fitB.2 ht) (fit_fitB.2 hu) (by rw [← hv]; omega) (by omega)))
    · rw [if_neg h0] at he'; exact absurd he' h0
  have HMP : Hid (∀ l r, meetP p l r = if p.kind = 1 then tm.meetB l r p.low p.high else decide (tm.start l p.size = tm.start r p.size)) := fun l r => rfl
  obtain ⟨gv, hgv⟩ : ∃ z, goneV p side mark = z := ⟨_, rfl⟩
  obtain ⟨ge, hge⟩ : ∃ z, goneErr p side mark = z := ⟨_, rfl⟩
  obtain ⟨MP, hMP⟩ : ∃ z, meetP p = z := ⟨_, rfl⟩
  rw [hgv, hge] at K1
  rw [hgv, hge, hMP] at HALL
  rw [hMP] at HMP
  clear hgv hge hMP hw hp
  obtain ⟨kind, mode, low, high, size, limit, left, right, lkeys, rkeys, grouped, group, aggs⟩ := p
  obtain ⟨l, lc, r, rc, lk, lkc, rk, rkc, g, gc, a, ac⟩ := x
  unfold planV at K1 ⊢
  dsimp only at K1 HALL HMP ⊢
  obtain ⟨n6, h6⟩ : ∃ n, left.length = n := ⟨_, rfl⟩
  obtain ⟨n7, h7⟩ : ∃ n, right.length = n := ⟨_, rfl⟩
  obtain ⟨n8, h8⟩ : ∃ n, lkeys.length = n := ⟨_, rfl⟩
  obtain ⟨n9, h9⟩ : ∃ n, rkeys.length = n := ⟨_, rfl⟩
  obtain ⟨n11, h11⟩ : ∃ n, group.length = n := ⟨_, rfl⟩
  obtain ⟨n12, h12⟩ : ∃ n, aggs.length = n := ⟨_, rfl⟩
  rw [h6, h7, h8, h9, h11, h12] at K1
  rw [h6, h7, h8, h9, h11, h12]
  clear h6 h7 h8 h9 h11 h12
  go_enter Try.func6, Try.ntmps6
  go_wp2_with fail
  refine (K1.out _ ((Below.refl _ _).alloc (Nat.le_refl _) _)).mono ?_
  rintro e w1 ⟨rfl, hb1⟩
  have h1 := ((Below.refl _ _).alloc (Nat.le_refl _) _).trans (hb1.mono (by simp))
  have hz1 : w.heap.size < w1.heap.size := (by have := hb1.size; simp at this; omega)
  have s0 : w1.cell? ⟨w.heap.size, 0, none⟩ = some (.int .i64 kind) := by rw [(bcell hb1).1 _ _ (by simp)]; go_simp
  have s2 : w1.cell? ⟨w.heap.size, 2, none⟩ = some (.int .i64 low) := by rw [(bcell hb1).1 _ _ (by simp)]; go_simp
  have s3 : w1.cell? ⟨w.heap.size, 3, none⟩ = some (.int .i64 high) := by rw [(bcell hb1).1 _ _ (by simp)]; go_simp
  have s4 : w1.cell? ⟨w.heap.size, 4, none⟩ = some (.int .i64 size) := by rw [(bcell hb1).1 _ _ (by simp)]; go_simp
  clear hb1 K1
  by_cases h0 : ge = 0
  · subst h0
    by_cases k3 : kind = 3
    · subst k3
      go_wp2_with
        (go_at_call 9; refine (begun_any _).mono ?_; rintro e w3 ⟨rfl, hb3⟩; have h3 := h1.trans (hb3.mono h1.size))
      go_ret
      exact ⟨rfl, h3⟩
    · have k3' : (kind == 3) = false := by simpa using k3
      cases ht : tm.fitB t
      · go_wp2_with (first
          | 
            (go_at_call 9; refine (begun_any _).mono ?_; rintro e w3 ⟨rfl, hb3⟩; have h3 := h1.trans (hb3.mono h1.size))
          | 
            (go_at_call 20; refine (tm.fits_any _ _).mono ?_; rintro e w' ⟨rfl, hw⟩; subst hw)
            )
        go_ret
        exact ⟨rfl, h3⟩
      · cases hu : tm.fitB u
        · go_wp2_with (first
            | 
              (go_at_call 9; refine (begun_any _).mono ?_; rintro e w3 ⟨rfl, hb3⟩; have h3 := h1.trans (hb3.mono h1.size))
            | 
              (go_at_call 20; refine (tm.fits_any _ _).mono ?_; rintro e w' ⟨rfl, hw⟩; subst hw)
              )
          go_ret
          exact ⟨rfl, h3⟩
        · obtain ⟨hsd, hps, hk1, hk2⟩ := HALL.out (by trivial) k3 ht hu
          have HFT : Hid (fit t) := fit_fitB.2 ht
          have HFU : Hid (fit u) := fit_fitB.2 hu
          have HK1 : Hid (kind = 1 → fit low ∧ fit high ∧ low ≤ high) := hk1
          have HK2 : Hid (kind ≠ 1 → 1 ≤ size ∧ size ≤ 1099511627776) := hk2
          have HPS : Hid (¬ gv < t → ¬ u ≤ mark → MP (if side = 2 then u else t) (if side = 2 then t else u) = false) := fun a b => by
            rcases hps with h | h | h
            · exact absurd h a
            · exact absurd h b
            · exact h
          clear HALL hps hk1 hk2 k3
          by_cases k1 : kind = 1
          · subst k1
            obtain ⟨f1, f2, f3⟩ := HK1.out rfl
            have HF : Hid (fit low ∧ fit high) := ⟨f1, f2⟩
            rcases hsd with rfl | rfl
            · have HPS2 : Hid (¬ gv < t → ¬ u ≤ mark → tm.meetB t u low high = false) := fun a b => by
                have := HPS.out a b
                rw [HMP.out, if_pos rfl] at this
                exact this
              clear HPS HMP f1 f2 HK1 HK2
              obtain ⟨mb, hmb⟩ : ∃ z, tm.meetB t u low high = z := ⟨_, rfl⟩
              have KM : Hid (∀ w1, Calls Try.prog 21 #[.int .i64 t, .int .i64 u, .int .i64 low, .int .i64 high] w1 fun e w' => e = .returned (.tuple #[.bool mb, .int .i64 0]) ∧ Below w1.heap.size w1 w') := fun w1 => by
                have := meets_b t u low high w1 HFT.out HFU.out HF.out.1 HF.out.2 f3
                rwa [hmb] at this
              have HPS : Hid (¬ gv < t → ¬ u ≤ mark → mb = false) := fun a b => by rw [← hmb]; exact HPS2.out a b
              clear hmb HPS2
              by_cases g1 : gv < t
              · go_wp2_with (first
                  | 
                    (go_at_call 20; refine (tm.fits_any _ _).mono ?_; rintro e w' ⟨rfl, hw⟩; subst hw)
                  | (go_at_call 21; refine (KM.out _).mono ?_; rintro e w2 ⟨rfl, hb2⟩; have h2 := h1.trans (hb2.mono h1.size))
                  | 
                    (go_at_call 9; refine (begun_any _).mono ?_; rintro e w3 ⟨rfl, hb3⟩; have h3 := h2.trans (hb3.mono h2.size))
                    )
                go_ret
                exact ⟨rfl, h3⟩
              · by_cases g2 : u ≤ mark
                · go_wp2_with (first
                    | 
                      (go_at_call 20; refine (tm.fits_any _ _).mono ?_; rintro e w' ⟨rfl, hw⟩; subst hw)
                    | (go_at_call 21; refine (KM.out _).mono ?_; rintro e w2 ⟨rfl, hb2⟩; have h2 := h1.trans (hb2.mono h1.size))
                    | 
                      (go_at_call 9; refine (begun_any _).mono ?_; rintro e w3 ⟨rfl, hb3⟩; have h3 := h2.trans (hb3.mono h2.size))
                      )
                  go_ret
                  exact ⟨rfl, h3⟩
                · have hmf := HPS.out g1 g2
                  subst hmf
                  go_wp2_with (first
                    | 
                      (go_at_call 20; refine (tm.fits_any _ _).mono ?_; rintro e w' ⟨rfl, hw⟩; subst hw)
                    | (go_at_call 21; refine (KM.out _).mono ?_; rintro e w2 ⟨rfl, hb2⟩; have h2 := h1.trans (hb2.mono h1.size))
                    | 
                      (go_at_call 9; refine (begun_any _).mono ?_; rintro e w3 ⟨rfl, hb3⟩; have h3 := h2.trans (hb3.mono h2.size))
                      )
                  go_ret
                  exact ⟨rfl, h3⟩
            · have HPS2 : Hid (¬ gv < t → ¬ u ≤ mark → tm.meetB u t low high = false) := fun a b => by
                have := HPS.out a b
                rw [HMP.out, if_pos rfl] at this
                exact this
              clear HPS HMP f1 f2 HK1 HK2
              obtain ⟨mb, hmb⟩ : ∃ z, tm.meetB u t low high = z := ⟨_, rfl⟩
              have KM : Hid (∀ w1, Calls Try.prog 21 #[.int .i64 u, .int .i64 t, .int .i64 low, .int .i64 high] w1 fun e w' => e = .returned (.tuple #[.bool mb, .int .i64 0]) ∧ Below w1.heap.size w1 w') := fun w1 => by
                have := meets_b u t low high w1 HFU.out HFT.out HF.out.1 HF.out.2 f3
                rwa [hmb] at this
              have HPS : Hid (¬ gv < t → ¬ u ≤ mark → mb = false) := fun a b => by rw [← hmb]; exact HPS2.out a b
              clear hmb HPS2
              by_cases g1 : gv < t
              · go_wp2_with (first
                  | 
                    (go_at_call 20; refine (tm.fits_any _ _).mono ?_; rintro e w' ⟨rfl, hw⟩; subst hw)
                  | (go_at_call 21; refine (KM.out _).mono ?_; rintro e w2 ⟨rfl, hb2⟩; have h2 := h1.trans (hb2.mono h1.size))
                  | 
                    (go_at_call 9; refine (begun_any _).mono ?_; rintro e w3 ⟨rfl, hb3⟩; have h3 := h2.trans (hb3.mono h2.size))
                    )
                go_ret
                exact ⟨rfl, h3⟩
              · by_cases g2 : u ≤ mark
                · go_wp2_with (first
                    | 
                      (go_at_call 20; refine (tm.fits_any _ _).mono ?_; rintro e w' ⟨rfl, hw⟩; subst hw)
                    | (go_at_call 21; refine (KM.out _).mono ?_; rintro e w2 ⟨rfl, hb2⟩; have h2 := h1.trans (hb2.mono h1.size))
                    | 
                      (go_at_call 9; refine (begun_any _).mono ?_; rintro e w3 ⟨rfl, hb3⟩; have h3 := h2.trans (hb3.mono h2.size))
                      )
                  go_ret
                  exact ⟨rfl, h3⟩
                · have hmf := HPS.out g1 g2
                  subst hmf
                  go_wp2_with (first
                    | 
                      (go_at_call 20; refine (tm.fits_any _ _).mono ?_; rintro e w' ⟨rfl, hw⟩; subst hw)
                    | (go_at_call 21; refine (KM.out _).mono ?_; rintro e w2 ⟨rfl, hb2⟩; have h2 := h1.trans (hb2.mono h1.size))
                    | 
                      (go_at_call 9; refine (begun_any _).mono ?_; rintro e w3 ⟨rfl, hb3⟩; have h3 := h2.trans (hb3.mono h2.size))
                      )
                  go_ret
                  exact ⟨rfl, h3⟩
          · have k1' : (kind == 1) = false := by simpa using k1
            obtain ⟨z1, z2⟩ := HK2.out k1
            rcases hsd with rfl | rfl
            · have HPS2 : Hid (¬ gv < t → ¬ u ≤ mark → ¬ tm.start t size = tm.start u size) := fun a b => by
                have := HPS.out a b
                rw [HMP.out, if_neg k1] at this
                exact of_decide_eq_false this
              clear HPS HMP HK1 HK2
              have K1 : Hid (∀ w1, Calls Try.prog 22 #[.int .i64 t, .int .i64 size] w1 fun e w' => e = .returned (.tuple #[.int .i64 (tm.start t size), .int .i64 (tm.start t size + size), .int .i64 0]) ∧ w' = w1) := fun w1 => tm.window_yes t size w1 ht z1 z2
              have K2 : Hid (∀ w1, Calls Try.prog 22 #[.int .i64 u, .int .i64 size] w1 fun e w' => e = .returned (.tuple #[.int .i64 (tm.start u size), .int .i64 (tm.start u size + size), .int .i64 0]) ∧ w' = w1) := fun w1 => tm.window_yes u size w1 hu z1 z2
              obtain ⟨va, hva⟩ : ∃ z, tm.start t size = z := ⟨_, rfl⟩
              obtain ⟨vb, hvb⟩ : ∃ z, tm.start u size = z := ⟨_, rfl⟩
              rw [hva] at K1 HPS2
              rw [hvb] at K2 HPS2
              clear hva hvb k1
              by_cases g1 : gv < t
              · go_wp2_with (first
                  | 
                    (go_at_call 20; refine (tm.fits_any _ _).mono ?_; rintro e w' ⟨rfl, hw⟩; subst hw)
                  | (go_at_call 22; have tk := K1; clear tk; refine (K1.out _).mono ?_; rintro e w2 ⟨rfl, hw2⟩; subst hw2; clear K1)
                  | (go_at_call 22; have tk := K2; clear tk; refine (K2.out _).mono ?_; rintro e w2 ⟨rfl, hw2⟩; subst hw2; clear K2)
                  | 
                    (go_at_call 9; refine (begun_any _).mono ?_; rintro e w3 ⟨rfl, hb3⟩; have h3 := h1.trans (hb3.mono h1.size))
                    )
                go_ret
                exact ⟨rfl, h3⟩
              · by_cases g2 : u ≤ mark
                · go_wp2_with (first
                    | 
                      (go_at_call 20; refine (tm.fits_any _ _).mono ?_; rintro e w' ⟨rfl, hw⟩; subst hw)
                    | (go_at_call 22; have tk := K1; clear tk; refine (K1.out _).mono ?_; rintro e w2 ⟨rfl, hw2⟩; subst hw2; clear K1)
                    | (go_at_call 22; have tk := K2; clear tk; refine (K2.out _).mono ?_; rintro e w2 ⟨rfl, hw2⟩; subst hw2; clear K2)
                    | 
                      (go_at_call 9; refine (begun_any _).mono ?_; rintro e w3 ⟨rfl, hb3⟩; have h3 := h1.trans (hb3.mono h1.size))
                      )
                  go_ret
                  exact ⟨rfl, h3⟩
                · have hmf : (va == vb) = false := by simpa using HPS2.out g1 g2
                  go_wp2_with (first
                    | 
                      (go_at_call 20; refine (tm.fits_any _ _).mono ?_; rintro e w' ⟨rfl, hw⟩; subst hw)
                    | (go_at_call 22; have tk := K1; clear tk; refine (K1.out _).mono ?_; rintro e w2 ⟨rfl, hw2⟩; subst hw2; clear K1)
                    | (go_at_call 22; have tk := K2; clear tk; refine (K2.out _).mono ?_; rintro e w2 ⟨rfl, hw2⟩; subst hw2; clear K2)
                    | 
                      (go_at_call 9; refine (begun_any _).mono ?_; rintro e w3 ⟨rfl, hb3⟩; have h3 := h1.trans (hb3.mono h1.size))
                      )
                  go_ret
                  exact ⟨rfl, h3⟩
            · have HPS2 : Hid (¬ gv < t → ¬ u ≤ mark → ¬ tm.start u size = tm.start t size) := fun a b => by
                have := HPS.out a b
                rw [HMP.out, if_neg k1] at this
                exact of_decide_eq_false this
              clear HPS HMP HK1 HK2
              have K1 : Hid (∀ w1, Calls Try.prog 22 #[.int .i64 u, .int .i64 size] w1 fun e w' => e = .returned (.tuple #[.int .i64 (tm.start u size), .int .i64 (tm.start u size + size), .int .i64 0]) ∧ w' = w1) := fun w1 => tm.window_yes u size w1 hu z1 z2
              have K2 : Hid (∀ w1, Calls Try.prog 22 #[.int .i64 t, .int .i64 size] w1 fun e w' => e = .returned (.tuple #[.int .i64 (tm.start t size), .int .i64 (tm.start t size + size), .int .i64 0]) ∧ w' = w1) := fun w1 => tm.window_yes t size w1 ht z1 z2
              obtain ⟨va, hva⟩ : ∃ z, tm.start u size = z := ⟨_, rfl⟩
              obtain ⟨vb, hvb⟩ : ∃ z, tm.start t size = z := ⟨_, rfl⟩
              rw [hva] at K1 HPS2
              rw [hvb] at K2 HPS2
              clear hva hvb k1
              by_cases g1 : gv < t
              · go_wp2_with (first
                  | 
                    (go_at_call 20; refine (tm.fits_any _ _).mono ?_; rintro e w' ⟨rfl, hw⟩; subst hw)
                  | (go_at_call 22; have tk := K1; clear tk; refine (K1.out _).mono ?_; rintro e w2 ⟨rfl, hw2⟩; subst hw2; clear K1)
                  | (go_at_call 22; have tk := K2; clear tk; refine (K2.out _).mono ?_; rintro e w2 ⟨rfl, hw2⟩; subst hw2; clear K2)
                  | 
                    (go_at_call 9; refine (begun_any _).mono ?_; rintro e w3 ⟨rfl, hb3⟩; have h3 := h1.trans (hb3.mono h1.size))
                    )
                go_ret
                exact ⟨rfl, h3⟩
              · by_cases g2 : u ≤ mark
                · go_wp2_with (first
                    | 
                      (go_at_call 20; refine (tm.fits_any _ _).mono ?_; rintro e w' ⟨rfl, hw⟩; subst hw)
                    | (go_at_call 22; have tk := K1; clear tk; refine (K1.out _).mono ?_; rintro e w2 ⟨rfl, hw2⟩; subst hw2; clear K1)
                    | (go_at_call 22; have tk := K2; clear tk; refine (K2.out _).mono ?_; rintro e w2 ⟨rfl, hw2⟩; subst hw2; clear K2)
                    | 
                      (go_at_call 9; refine (begun_any _).mono ?_; rintro e w3 ⟨rfl, hb3⟩; have h3 := h1.trans (hb3.mono h1.size))
                      )
                  go_ret
                  exact ⟨rfl, h3⟩
                · have hmf : (va == vb) = false := by simpa using HPS2.out g1 g2
                  go_wp2_with (first
                    | 
                      (go_at_call 20; refine (tm.fits_any _ _).mono ?_; rintro e w' ⟨rfl, hw⟩; subst hw)
                    | (go_at_call 22; have tk := K1; clear tk; refine (K1.out _).mono ?_; rintro e w2 ⟨rfl, hw2⟩; subst hw2; clear K1)
                    | (go_at_call 22; have tk := K2; clear tk; refine (K2.out _).mono ?_; rintro e w2 ⟨rfl, hw2⟩; subst hw2; clear K2)
                    | 
                      (go_at_call 9; refine (begun_any _).mono ?_; rintro e w3 ⟨rfl, hb3⟩; have h3 := h1.trans (hb3.mono h1.size))
                      )
                  go_ret
                  exact ⟨rfl, h3⟩
  · have h0' : (ge != 0) = true := by simpa using h0
    clear h0
    go_wp2_with
      (go_at_call 9; refine (begun_any _).mono ?_; rintro e w3 ⟨rfl, hb3⟩; have h3 := h1.trans (hb3.mono h1.size))
    go_ret
    exact ⟨rfl, h3⟩
end Go.Proofs.Ytibjihdeknndoaa.pl
