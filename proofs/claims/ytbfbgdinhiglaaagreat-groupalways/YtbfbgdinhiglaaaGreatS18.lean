import Derived.Test.YtbfbgdinhiglaaaGreatS17
import Derived.Deep.RegionHeld3
import Derived.BigQuiet
import Derived.Test.YtbfbgdinhiglaaaGreatS11
import Derived.Test.YtbfbgdinhiglaaaGreatMgPlnB
/- A bag of tallies: valueRight, talliesRight. -/
namespace Go.Proofs.YtbfbgdinhiglaaaGreat.gr
open Go.ChangeShapes Go.WideShapes Go.ChangeAt Go.RowKit
open vl pl bt
set_option linter.unusedVariables false
set_option linter.unusedSimpArgs false
attribute [local go_sem] Oper.semAt_some
set_option maxHeartbeats 2000000 in
theorem valueRight_any (c : Cel) (col : Int) (w : World) (hs : c.s.size ≤ maxLen) :
    Calls Tryz.prog 156 #[celV c, .int .i64 col] w fun e w' => e = .returned (.bool (valB c col)) ∧ Below w.heap.size w w' := by
  have KC : Hid (∀ w1, Calls Tryz.prog 99 #[celV c] w1 fun e w' => e = .returned (.int .i64 (chk c.k c.n c.s)) ∧ Below w1.heap.size w1 w') := fun w1 => check_any c.k c.n c.s w1 hs
  obtain ⟨R, hR⟩ : ∃ z, valB c col = z := ⟨_, rfl⟩
  have HR : Hid (valB c col = R) := hR
  unfold valB at HR
  rw [hR]
  clear hR hs
  obtain ⟨E, hE⟩ : ∃ z, chk c.k c.n c.s = z := ⟨_, rfl⟩
  rw [hE] at KC HR
  clear hE
  obtain ⟨ck, cn, cs⟩ := c
  unfold celV at KC ⊢
  dsimp only at KC HR ⊢
  have hb0 : Below w.heap.size w (w.alloc (.cells #[.int .i64 ck, .int .i64 cn, .string cs] 68)) := (Below.refl _ _).alloc (Nat.le_refl _) _
  by_cases h0 : E = 0
  · subst h0
    by_cases h1 : ck = 0
    · subst h1
      have HE : Hid (true = R) := by show _ = _; rw [← HR.out]; simp
      go_enter Tryz.func156, Tryz.ntmps156
      go_wp2_with (go_at_call 99; refine (KC.out _).mono ?_; rintro e w1 ⟨rfl, hb1⟩; have q0 : w1.cell? ⟨w.heap.size, 0, none⟩ = some (.int .i64 0) := cell_later hb1 (by go_simp))
      go_ret
      exact ⟨ret_bool HE.out, hb0.trans (hb1.mono hb0.size)⟩
    · have h1' : (ck == 0) = false := by simpa using h1
      by_cases h2 : ck = col
      · subst h2
        have HE : Hid (true = R) := by show _ = _; rw [← HR.out]; simp
        go_enter Tryz.func156, Tryz.ntmps156
        go_wp2_with (go_at_call 99; refine (KC.out _).mono ?_; rintro e w1 ⟨rfl, hb1⟩; have q0 : w1.cell? ⟨w.heap.size, 0, none⟩ = some (.int .i64 ck) := cell_later hb1 (by go_simp))
        go_ret
        exact ⟨ret_bool HE.out, hb0.trans (hb1.mono hb0.size)⟩
      · have h2' : (ck == col) = false := by simpa using h2
        have HE : Hid (false = R) := by show _ = _; rw [← HR.out]; simp [h1, h2]
        go_enter Tryz.func156, Tryz.ntmps156
        go_wp2_with (go_at_call 99; refine (KC.out _).mono ?_; rintro e w1 ⟨rfl, hb1⟩; have q0 : w1.cell? ⟨w.heap.size, 0, none⟩ = some (.int .i64 ck) := cell_later hb1 (by go_simp))
        go_ret
        exact ⟨ret_bool HE.out, hb0.trans (hb1.mono hb0.size)⟩
  · have h0' : (E == 0) = false := by simpa using h0
    have HE : Hid (false = R) := by show _ = _; rw [← HR.out]; simp [h0]
    go_enter Tryz.func156, Tryz.ntmps156
    go_wp2_with (go_at_call 99; refine (KC.out _).mono ?_; rintro e w1 ⟨rfl, hb1⟩)
    go_ret
    exact ⟨ret_bool HE.out, hb0.trans (hb1.mono hb0.size)⟩
theorem talsB_no {col rest : Int} {l : List Tal} {k : Nat} (h : k < l.length) (ht : talB col rest (prevOf l k) (l.getD k default) = false) : talsB col rest (prevOf l k) (l.drop k) = false := by
  rw [tals_step h, ht]; rfl
theorem talsB_yes {col rest : Int} {l : List Tal} {k : Nat} (h : k < l.length) (ht : talB col rest (prevOf l k) (l.getD k default) = true) : talsB col rest (prevOf l k) (l.drop k) = talsB col (rest - (l.getD k default).2) (prevOf l (k + 1)) (l.drop (k + 1)) := by
  rw [tals_step h, ht, Bool.true_and]
set_option maxRecDepth 100000 in
set_option maxHeartbeats 8000000 in
theorem talliesRight_any (a : Option Addr) (cap : Nat) (l : List Tal) (col n : Int) (w : World) (hl : l.length ≤ 9223372036854775807) (ha : bagAt w a l) (hn : i64 n) (hw : ∀ t ∈ l, t.1.s.size ≤ maxLen ∧ i64 t.1.n ∧ i64 t.2) :
    Calls Tryz.prog 127 #[.slice a l.length cap, .int .i64 col, .int .i64 n] w fun e w' => e = .returned (.bool (talsB col n none l)) ∧ Below w.heap.size w w' := by
  have HA : Hid (bagAt w a l) := ha
  have HW : Hid (∀ k, k < l.length → (l.getD k default).1.s.size ≤ maxLen ∧ i64 (l.getD k default).2) := fun k hk => by
    have := hw (l.getD k default) (by rw [List.getD_eq_getElem?_getD, List.getElem?_eq_getElem hk]; exact List.getElem_mem hk)
    exact ⟨this.1, this.2.2⟩
  obtain ⟨R, hR⟩ : ∃ z, talsB col n none l = z := ⟨_, rfl⟩
  have HR0 : Hid (talsB col n (prevOf l 0) (l.drop 0) = R) := hR
  rw [hR]
  clear hR ha hw
  obtain ⟨ln, hln⟩ : ∃ z, l.length = z := ⟨_, rfl⟩
  have HN : Hid (l.length = ln) := hln
  rw [hln] at hl ⊢
  clear hln
  obtain ⟨hn1, hn2⟩ := hn
  go_enter Tryz.func127, Tryz.ntmps127
  go_wp2
  go_loopw [7, 13] (fun rr t wr => ∃ (k : Nat) (r : Int), k ≤ ln ∧ t = .int .i64 k ∧ rr = .int .i64 r ∧ i64 r ∧ talsB col r (prevOf l k) (l.drop k) = R ∧ Below w.heap.size w wr) (fun _ t _ => ln - (intOf t).toNat)
  case atStart => exact ⟨0, n, Nat.zero_le _, rfl, rfl, ⟨hn1, hn2⟩, HR0.out, Below.refl _ _⟩
  case round =>
    obtain ⟨k, r, hk, rfl, rfl, hr, hst, hbr⟩ := hrel
    have HST : Hid (talsB col r (prevOf l k) (l.drop k) = R) := hst
    obtain ⟨hr1, hr2⟩ := hr
    clear hst
    by_cases hlt : k < ln
    · have hk2 : k < l.length := by rw [HN.out]; exact hlt
      obtain ⟨b3, o3, e3, m1, m2, m3, m4⟩ := HA.out k hk2
      have HPV : Hid (∀ j, k = j + 1 → ∃ b o, a = some ⟨b, o, none⟩ ∧ wr.cell? ⟨b, o + j * 4, none⟩ = some (.int .i64 (l.getD j default).1.k) ∧ wr.cell? ⟨b, o + j * 4 + 1, none⟩ = some (.int .i64 (l.getD j default).1.n) ∧ wr.cell? ⟨b, o + j * 4 + 2, none⟩ = some (.string (l.getD j default).1.s)) := fun j hj => by
        obtain ⟨b, o, e, x1, x2, x3, x4⟩ := HA.out j (by omega)
        exact ⟨b, o, e, cell_later hbr x1, cell_later hbr x2, cell_later hbr x3⟩
      obtain ⟨hw1, hw2, hw3⟩ := HW.out k hk2
      subst e3
      have p1 := cell_later hbr m1
      have p2 := cell_later hbr m2
      have p3 := cell_later hbr m3
      have p4 := cell_later hbr m4
      have lb3 : b3 < wr.heap.size := World.block_lt_of_cell? _ _ p1
      have i1 : (0 : Int) ≤ (k : Int) := by omega
      have i2 : (k : Int) < (ln : Int) := by omega
      have HNO : Hid (talB col r (prevOf l k) (l.getD k default) = false → false = R) := fun h => by rw [← HST.out]; exact (talsB_no hk2 h).symm
      have HYES : Hid (talB col r (prevOf l k) (l.getD k default) = true → talsB col (r - (l.getD k default).2) (prevOf l (k + 1)) (l.drop (k + 1)) = R) := fun h => by rw [← HST.out]; exact (talsB_yes hk2 h).symm
      have KV : Hid (∀ w1, Calls Tryz.prog 156 #[celV (l.getD k default).1, .int .i64 col] w1 fun e w' => e = .returned (.bool (valB (l.getD k default).1 col)) ∧ Below w1.heap.size w1 w') := fun w1 => valueRight_any _ _ w1 hw1
      obtain ⟨⟨⟨xk, xn, xs⟩, xm⟩, hx⟩ : ∃ z, l.getD k default = z := ⟨_, rfl⟩
      rw [hx] at p1 p2 p3 p4 HNO HYES KV hw2 hw3
      unfold celV at KV
      dsimp only at p1 p2 p3 p4 KV HYES hw2 hw3
      obtain ⟨VB, hVB⟩ : ∃ z, valB ⟨xk, xn, xs⟩ col = z := ⟨_, rfl⟩
      have HVB : Hid (valB ⟨xk, xn, xs⟩ col = VB) := hVB
      rw [hVB] at KV
      clear hx m1 m2 m3 m4 hVB hw1
      cases VB with
      | false =>
        have HE : Hid (false = R) := HNO.out (by unfold talB; rw [HVB.out]; simp)
        go_wp2_with (go_at_call 156; refine (KV.out _).mono ?_; rintro e w1 ⟨rfl, hb1⟩; have s0 : w1.cell? ⟨wr.heap.size, 0, none⟩ = some (.int .i64 xk) := cell_later hb1 (by go_simp); have s1 : w1.cell? ⟨wr.heap.size, 1, none⟩ = some (.int .i64 xn) := cell_later hb1 (by go_simp); have s2 : w1.cell? ⟨wr.heap.size, 2, none⟩ = some (.string xs) := cell_later hb1 (by go_simp); have s3 : w1.cell? ⟨wr.heap.size, 3, none⟩ = some (.int .i64 xm) := cell_later hb1 (by go_simp); have hbz : Below w.heap.size w w1 := (hbr.alloc hbr.size _).trans (hb1.mono (by have := hbr.size; simp <;> omega)); have lz : wr.heap.size < w1.heap.size := World.block_lt_of_cell? _ _ s0; have hbb : Below wr.heap.size wr w1 := ((Below.refl _ _).alloc (Nat.le_refl _) _).trans (hb1.mono (by simp)))
        go_ret
        exact ⟨ret_bool HE.out, hbz⟩
      | true =>
        by_cases h1 : xm < 1
        · have HE : Hid (false = R) := HNO.out (by unfold talB; simp; intros; omega)
          go_wp2_with (go_at_call 156; refine (KV.out _).mono ?_; rintro e w1 ⟨rfl, hb1⟩; have s0 : w1.cell? ⟨wr.heap.size, 0, none⟩ = some (.int .i64 xk) := cell_later hb1 (by go_simp); have s1 : w1.cell? ⟨wr.heap.size, 1, none⟩ = some (.int .i64 xn) := cell_later hb1 (by go_simp); have s2 : w1.cell? ⟨wr.heap.size, 2, none⟩ = some (.string xs) := cell_later hb1 (by go_simp); have s3 : w1.cell? ⟨wr.heap.size, 3, none⟩ = some (.int .i64 xm) := cell_later hb1 (by go_simp); have hbz : Below w.heap.size w w1 := (hbr.alloc hbr.size _).trans (hb1.mono (by have := hbr.size; simp <;> omega)); have lz : wr.heap.size < w1.heap.size := World.block_lt_of_cell? _ _ s0; have hbb : Below wr.heap.size wr w1 := ((Below.refl _ _).alloc (Nat.le_refl _) _).trans (hb1.mono (by simp)))
          go_ret
          exact ⟨ret_bool HE.out, hbz⟩
        · by_cases h2 : xm > r
          · have HE : Hid (false = R) := HNO.out (by unfold talB; simp; intros; omega)
            go_wp2_with (go_at_call 156; refine (KV.out _).mono ?_; rintro e w1 ⟨rfl, hb1⟩; have s0 : w1.cell? ⟨wr.heap.size, 0, none⟩ = some (.int .i64 xk) := cell_later hb1 (by go_simp); have s1 : w1.cell? ⟨wr.heap.size, 1, none⟩ = some (.int .i64 xn) := cell_later hb1 (by go_simp); have s2 : w1.cell? ⟨wr.heap.size, 2, none⟩ = some (.string xs) := cell_later hb1 (by go_simp); have s3 : w1.cell? ⟨wr.heap.size, 3, none⟩ = some (.int .i64 xm) := cell_later hb1 (by go_simp); have hbz : Below w.heap.size w w1 := (hbr.alloc hbr.size _).trans (hb1.mono (by have := hbr.size; simp <;> omega)); have lz : wr.heap.size < w1.heap.size := World.block_lt_of_cell? _ _ s0; have hbb : Below wr.heap.size wr w1 := ((Below.refl _ _).alloc (Nat.le_refl _) _).trans (hb1.mono (by simp)))
            go_ret
            exact ⟨ret_bool HE.out, hbz⟩
          · have hw4 : IntKind.i64.wrap (r - xm) = r - xm := by rw [IntKind.wrap_i64]; omega
            by_cases hk0 : k = 0
            · have HY : Hid (talsB col (r - xm) (prevOf l (k + 1)) (l.drop (k + 1)) = R) := HYES.out (by unfold talB; rw [HVB.out, show prevOf l k = none from if_pos hk0]; simp; omega)
              have i6 : decide (0 < k) = false := by simp; omega
              have hw5 : i64 (r - xm) := ⟨by omega, by omega⟩
              have HW5 : Hid (i64 (r - xm)) := hw5
              clear hk0 hw5
              go_wp2_with (go_at_call 156; refine (KV.out _).mono ?_; rintro e w1 ⟨rfl, hb1⟩; have s0 : w1.cell? ⟨wr.heap.size, 0, none⟩ = some (.int .i64 xk) := cell_later hb1 (by go_simp); have s1 : w1.cell? ⟨wr.heap.size, 1, none⟩ = some (.int .i64 xn) := cell_later hb1 (by go_simp); have s2 : w1.cell? ⟨wr.heap.size, 2, none⟩ = some (.string xs) := cell_later hb1 (by go_simp); have s3 : w1.cell? ⟨wr.heap.size, 3, none⟩ = some (.int .i64 xm) := cell_later hb1 (by go_simp); have hbz : Below w.heap.size w w1 := (hbr.alloc hbr.size _).trans (hb1.mono (by have := hbr.size; simp <;> omega)); have lz : wr.heap.size < w1.heap.size := World.block_lt_of_cell? _ _ s0; have hbb : Below wr.heap.size wr w1 := ((Below.refl _ _).alloc (Nat.le_refl _) _).trans (hb1.mono (by simp)))
              go_quiet (fail)
              have hq := pl.below_dn hbz nq
              have hqq := pl.below_dn (Below.refl w1.heap.size w1) nq
              generalize (w1.drewN nq) = W2 at hq hqq ⊢
              have t3 := cell_later hqq s3
              go_wp2
              go_roundw
              case rel => exact ⟨k + 1, r - xm, by omega, by go_num, rfl, HW5.out, HY.out, hq⟩
              case measure => simp [intOf]; omega
            · obtain ⟨j, hj⟩ : ∃ j, k = j + 1 := ⟨k - 1, by omega⟩
              obtain ⟨b4, o4, e4, z1, z2, z3⟩ := HPV.out j hj
              injection e4 with e4
              injection e4 with e5 e6
              subst e5 e6
              have i6 : decide (0 < k) = true := by simp; omega
              have i7 : IntKind.i64.wrap ((k : Int) - 1) = (j : Int) := by rw [IntKind.wrap_i64]; omega
              have i8 : (0 : Int) ≤ (j : Int) := by omega
              have i9 : (j : Int) < (ln : Int) := by omega
              have HPJ : Hid (prevOf l k = some (l.getD j default).1) := by show _ = _; rw [hj]; rfl
              obtain ⟨⟨qk, qn, qs⟩, hq0⟩ : ∃ z, (l.getD j default).1 = z := ⟨_, rfl⟩
              rw [hq0] at z1 z2 z3 HPJ
              dsimp only at z1 z2 z3
              have KC : Hid (∀ w1, Calls Tryz.prog 124 #[.agg #[.int .i64 qk, .int .i64 qn, .string qs], .agg #[.int .i64 xk, .int .i64 xn, .string xs]] w1 fun e w' => e = .returned (.int .i64 (cmpC ⟨qk, qn, qs⟩ ⟨xk, xn, xs⟩)) ∧ Below w1.heap.size w1 w') := fun w1 => compare_any qk qn qs xk xn xs w1
              obtain ⟨CV, hCV⟩ : ∃ z, cmpC ⟨qk, qn, qs⟩ ⟨xk, xn, xs⟩ = z := ⟨_, rfl⟩
              have HCV : Hid (cmpC ⟨qk, qn, qs⟩ ⟨xk, xn, xs⟩ = CV) := hCV
              rw [hCV] at KC
              clear hCV hq0 hj hk0
              by_cases h3 : CV < 0
              · have HY : Hid (talsB col (r - xm) (prevOf l (k + 1)) (l.drop (k + 1)) = R) := HYES.out (by unfold talB; rw [HVB.out, HPJ.out]; simp [HCV.out, h3]; omega)
                have HW5 : Hid (i64 (r - xm)) := ⟨by omega, by omega⟩
                have h3' : ¬ (CV ≥ 0) := by omega
                go_wp2_with (go_at_call 156; refine (KV.out _).mono ?_; rintro e w1 ⟨rfl, hb1⟩; have s0 : w1.cell? ⟨wr.heap.size, 0, none⟩ = some (.int .i64 xk) := cell_later hb1 (by go_simp); have s1 : w1.cell? ⟨wr.heap.size, 1, none⟩ = some (.int .i64 xn) := cell_later hb1 (by go_simp); have s2 : w1.cell? ⟨wr.heap.size, 2, none⟩ = some (.string xs) := cell_later hb1 (by go_simp); have s3 : w1.cell? ⟨wr.heap.size, 3, none⟩ = some (.int .i64 xm) := cell_later hb1 (by go_simp); have hbz : Below w.heap.size w w1 := (hbr.alloc hbr.size _).trans (hb1.mono (by have := hbr.size; simp <;> omega)); have lz : wr.heap.size < w1.heap.size := World.block_lt_of_cell? _ _ s0; have hbb : Below wr.heap.size wr w1 := ((Below.refl _ _).alloc (Nat.le_refl _) _).trans (hb1.mono (by simp)))
                have v1 := cell_later hbb z1
                have v2 := cell_later hbb z2
                have v3 := cell_later hbb z3
                go_region_held3 (fun w' => w'.cell? ⟨b3, o3 + j * 4, none⟩ = some (.int .i64 qk) ∧ w'.cell? ⟨b3, o3 + j * 4 + 1, none⟩ = some (.int .i64 qn) ∧ w'.cell? ⟨b3, o3 + j * 4 + 2, none⟩ = some (.string qs) ∧ w'.cell? ⟨wr.heap.size, 0, none⟩ = some (.int .i64 xk) ∧ w'.cell? ⟨wr.heap.size, 1, none⟩ = some (.int .i64 xn) ∧ w'.cell? ⟨wr.heap.size, 2, none⟩ = some (.string xs) ∧ w'.cell? ⟨wr.heap.size, 3, none⟩ = some (.int .i64 xm)) (first | exact ⟨cell_later hq1 v1, cell_later hq1 v2, cell_later hq1 v3, cell_later hq1 s0, cell_later hq1 s1, cell_later hq1 s2, cell_later hq1 s3⟩ | go_keep | (refine ⟨?_, ?_, ?_, ?_, ?_, ?_, ?_⟩ <;> go_keep))
                  (first | (go_at_call 124; refine (KC.out w1.drew).mono ?_; rintro e y1 ⟨rfl, hy1⟩; have hq1 : Below w1.heap.size w1 y1 := (Below.refl _ _).drew.trans hy1; have t3 := cell_later hq1 s3))
                all_goals
                  go_wp2
                  go_roundw
                  case rel => exact ⟨k + 1, r - xm, by omega, by go_num, rfl, HW5.out, HY.out, hbz.trans (hq1.mono hbz.size)⟩
                  case measure => simp [intOf]; omega
              · have HE : Hid (false = R) := HNO.out (by unfold talB; rw [HPJ.out]; simp [HCV.out]; intros; omega)
                have h3' : CV ≥ 0 := by omega
                go_wp2_with (go_at_call 156; refine (KV.out _).mono ?_; rintro e w1 ⟨rfl, hb1⟩; have s0 : w1.cell? ⟨wr.heap.size, 0, none⟩ = some (.int .i64 xk) := cell_later hb1 (by go_simp); have s1 : w1.cell? ⟨wr.heap.size, 1, none⟩ = some (.int .i64 xn) := cell_later hb1 (by go_simp); have s2 : w1.cell? ⟨wr.heap.size, 2, none⟩ = some (.string xs) := cell_later hb1 (by go_simp); have s3 : w1.cell? ⟨wr.heap.size, 3, none⟩ = some (.int .i64 xm) := cell_later hb1 (by go_simp); have hbz : Below w.heap.size w w1 := (hbr.alloc hbr.size _).trans (hb1.mono (by have := hbr.size; simp <;> omega)); have lz : wr.heap.size < w1.heap.size := World.block_lt_of_cell? _ _ s0; have hbb : Below wr.heap.size wr w1 := ((Below.refl _ _).alloc (Nat.le_refl _) _).trans (hb1.mono (by simp)))
                have v1 := cell_later hbb z1
                have v2 := cell_later hbb z2
                have v3 := cell_later hbb z3
                go_region_held3 (fun w' => w'.cell? ⟨b3, o3 + j * 4, none⟩ = some (.int .i64 qk) ∧ w'.cell? ⟨b3, o3 + j * 4 + 1, none⟩ = some (.int .i64 qn) ∧ w'.cell? ⟨b3, o3 + j * 4 + 2, none⟩ = some (.string qs) ∧ w'.cell? ⟨wr.heap.size, 0, none⟩ = some (.int .i64 xk) ∧ w'.cell? ⟨wr.heap.size, 1, none⟩ = some (.int .i64 xn) ∧ w'.cell? ⟨wr.heap.size, 2, none⟩ = some (.string xs) ∧ w'.cell? ⟨wr.heap.size, 3, none⟩ = some (.int .i64 xm)) (first | exact ⟨cell_later hq1 v1, cell_later hq1 v2, cell_later hq1 v3, cell_later hq1 s0, cell_later hq1 s1, cell_later hq1 s2, cell_later hq1 s3⟩ | go_keep | (refine ⟨?_, ?_, ?_, ?_, ?_, ?_, ?_⟩ <;> go_keep))
                  (first | (go_at_call 124; refine (KC.out w1.drew).mono ?_; rintro e y1 ⟨rfl, hy1⟩; have hq1 : Below w1.heap.size w1 y1 := (Below.refl _ _).drew.trans hy1; have t3 := cell_later hq1 s3))
                all_goals
                  go_wp2
                  go_ret
                  exact ⟨ret_bool HE.out, hbz.trans (hq1.mono hbz.size)⟩
    · have hke : k = ln := by omega
      have HE : Hid (decide (r = 0) = R) := by show _ = _; rw [← HST.out]; exact (tals_end (by rw [HN.out]; omega)).symm
      go_wp2
      go_ret
      first
        | exact ⟨ret_bool HE.out, hbr⟩
        | exact ⟨ret_bool (by rw [← HE.out]; simp), hbr⟩
end Go.Proofs.YtbfbgdinhiglaaaGreat.gr
/- The bags of a group: bagsRight. -/
namespace Go.Proofs.YtbfbgdinhiglaaaGreat.gr
open Go.ChangeShapes Go.WideShapes Go.ChangeAt Go.RowKit
open vl pl bt
set_option linter.unusedVariables false
set_option linter.unusedSimpArgs false
attribute [local go_sem] Oper.semAt_some
set_option maxRecDepth 100000 in
set_option maxHeartbeats 4000000 in
/-- one bag: the function that Every is handed -/
theorem bag1_any (i A C X : Nat) (ta : Option Addr) (tc : Nat) (l : List Tal) (aa ca : Option Addr) (ac cc : Nat) (aggs : List (Int × Int)) (c : List Int) (n : Int) (w : World)
    (hA : w.cell? ⟨A, 0, none⟩ = some (.slice aa aggs.length ac)) (hC : w.cell? ⟨C, 0, none⟩ = some (.slice ca c.length cc)) (hX : w.cell? ⟨X, 1, none⟩ = some (.int .i64 n))
    (ha : aggsAt w aa aggs) (hc : intsAt w ca c) (hb : bagAt w ta l) (hi : i < aggs.length) (hal : aggs.length ≤ 9223372036854775807) (hcl : c.length ≤ 9223372036854775807) (hcol : 0 ≤ (aggs.getD i (0, 0)).2 ∧ (aggs.getD i (0, 0)).2.toNat < c.length)
    (hl : l.length ≤ 9223372036854775807) (hn : i64 n) (hw : ∀ t ∈ l, t.1.s.size ≤ maxLen ∧ i64 t.1.n ∧ i64 t.2) :
    Calls Tryz.prog 126 #[.int .i64 (i : Nat), .slice ta l.length tc, .pointer (some ⟨A, 0, none⟩), .pointer (some ⟨C, 0, none⟩), .pointer (some ⟨X, 0, none⟩)] w fun e w' => e = .returned (.bool (bagB c (aggs.getD i (0, 0)) n l)) ∧ Below w.heap.size w w' := by
  have KT : Hid (∀ w1, Below w.heap.size w w1 → Calls Tryz.prog 127 #[.slice ta l.length tc, .int .i64 (c.getD (aggs.getD i (0, 0)).2.toNat 0), .int .i64 n] w1 fun e w' => e = .returned (.bool (talsB (c.getD (aggs.getD i (0, 0)).2.toNat 0) n none l)) ∧ Below w1.heap.size w1 w') := fun w1 h1 => talliesRight_any ta tc l _ n w1 hl (bagAt_below hb h1) hn hw
  obtain ⟨R, hR⟩ : ∃ z, bagB c (aggs.getD i (0, 0)) n l = z := ⟨_, rfl⟩
  have HR : Hid (bagB c (aggs.getD i (0, 0)) n l = R) := hR
  unfold bagB at HR
  rw [hR]
  clear hR
  obtain ⟨b1, o1, e1, x1, x2⟩ := ha i hi
  subst e1
  obtain ⟨hc0, hc1⟩ := hcol
  obtain ⟨b2, o2, e2, x3⟩ := hc (aggs.getD i (0, 0)).2.toNat hc1
  subst e2
  obtain ⟨⟨fn, col⟩, hz⟩ : ∃ z, aggs.getD i (0, 0) = z := ⟨_, rfl⟩
  rw [hz] at x1 x2 x3 HR KT hc0 hc1
  dsimp only at x1 x2 x3 HR KT hc0 hc1
  obtain ⟨cl, rfl⟩ := Int.eq_ofNat_of_zero_le hc0
  simp only [Int.toNat_natCast] at x3 HR KT hc1
  obtain ⟨cv, hcv⟩ : ∃ z, c.getD cl 0 = z := ⟨_, rfl⟩
  rw [hcv] at x3 HR KT
  obtain ⟨ln, hln⟩ : ∃ z, l.length = z := ⟨_, rfl⟩
  obtain ⟨an, han⟩ : ∃ z, aggs.length = z := ⟨_, rfl⟩
  obtain ⟨cn, hcn⟩ : ∃ z, c.length = z := ⟨_, rfl⟩
  rw [hln] at KT HR hl ⊢
  rw [han] at hA hi hal
  rw [hcn] at hC hc1 hcl
  have i1 : (0 : Int) ≤ (i : Int) := by omega
  have i2 : (i : Int) < (an : Int) := by omega
  have j1 : (0 : Int) ≤ (cl : Int) := by omega
  have j2 : (cl : Int) < (cn : Int) := by omega
  clear hz hcv hln han hcn ha hc hb hn hw hc0
  by_cases h1 : fn = 1
  · subst h1
    by_cases h9 : ln = 0
    · subst h9
      have HE : Hid (true = R) := by show _ = _; rw [← HR.out, if_pos rfl]; rfl
      go_enter Tryz.func126, Tryz.ntmps126
      go_wp2
      go_ret
      exact ⟨ret_bool HE.out, Below.refl _ _⟩
    · have HE : Hid (false = R) := by show _ = _; rw [← HR.out, if_pos rfl]; simp [h9]
      have h9' : ((ln : Int) == 0) = false := by simp; omega
      go_enter Tryz.func126, Tryz.ntmps126
      go_wp2
      go_ret
      exact ⟨ret_bool (by rw [← HE.out]), Below.refl _ _⟩
  · have h1' : (fn == 1) = false := by simpa using h1
    have HE : Hid (talsB cv n none l = R) := by show _ = _; rw [← HR.out, if_neg h1]
    rw [HE.out] at KT
    go_enter Tryz.func126, Tryz.ntmps126
    go_wp2
    go_region_held3 (fun w' => w'.cell? ⟨A, 0, none⟩ = some (.slice (some ⟨b1, o1, none⟩) an ac) ∧ w'.cell? ⟨C, 0, none⟩ = some (.slice (some ⟨b2, o2, none⟩) cn cc) ∧ w'.cell? ⟨X, 1, none⟩ = some (.int .i64 n) ∧ w'.cell? ⟨b1, o1 + i * 2 + 1, none⟩ = some (.int .i64 (cl : Int)) ∧ w'.cell? ⟨b2, o2 + cl, none⟩ = some (.int .i64 cv)) (first | exact ⟨cell_later hq1 hA, cell_later hq1 hC, cell_later hq1 hX, cell_later hq1 x2, cell_later hq1 x3⟩ | go_keep)
      (first | (go_at_call 127; refine (KT.out w.drew (Below.refl _ _).drew).mono ?_; rintro e y1 ⟨rfl, hy1⟩; have hq1 : Below w.heap.size w y1 := (Below.refl _ _).drew.trans hy1))
    all_goals
      go_wp2
      go_ret
      exact ⟨rfl, hq1⟩
set_option maxHeartbeats 4000000 in
theorem bagsRight_any (aa ca : Option Addr) (ac cc : Nat) (aggs : List (Int × Int)) (c : List Int) (x : GX) (g : Grp) (w : World) (ha : aggsAt w aa aggs) (hc : intsAt w ca c) (hg : gAt w x g) (hw : wfG g) (hal : aggs.length ≤ 9223372036854775807) (hcl : c.length ≤ 9223372036854775807) (hcol : ∀ i, i < aggs.length → 0 ≤ (aggs.getD i (0, 0)).2 ∧ (aggs.getD i (0, 0)).2.toNat < c.length) :
    Calls Tryz.prog 77 #[.slice aa aggs.length ac, .slice ca c.length cc, grpV x g] w fun e w' => e = .returned (.bool (bagsB c aggs g)) ∧ Below w.heap.size w w' := by
  have hmem : ∀ i, i < g.bags.length → g.bags.getD i [] ∈ g.bags := fun i hi => by rw [List.getD_eq_getElem?_getD, List.getElem?_eq_getElem hi]; exact List.getElem_mem hi
  have KE : Hid (∀ A C X w1, Below w.heap.size w w1 → g.bags.length = aggs.length → w1.cell? ⟨A, 0, none⟩ = some (.slice aa aggs.length ac) → w1.cell? ⟨C, 0, none⟩ = some (.slice ca c.length cc) → w1.cell? ⟨X, 1, none⟩ = some (.int .i64 g.n) →
      Calls Tryz.prog 125 #[.slice x.b g.bags.length x.bc, .func (.func 126) #[] #[.pointer (some ⟨A, 0, none⟩), .pointer (some ⟨C, 0, none⟩), .pointer (some ⟨X, 0, none⟩)]] w1 fun e w' => e = .returned (.bool (allB g.bags.length (fun i => bagB c (aggs.getD i (0, 0)) g.n (g.bags.getD i [])))) ∧ Below w1.heap.size w1 w') := fun A C X w1 hb1 hlen hA hC hX => by
    have k := everyBag_any 126 (enters_of Tryz.func126 (by kernel_rfl) rfl) #[.pointer (some ⟨A, 0, none⟩), .pointer (some ⟨C, 0, none⟩), .pointer (some ⟨X, 0, none⟩)] (fun i => bagB c (aggs.getD i (0, 0)) g.n (g.bags.getD i [])) x.b x.bc x.hs w1 (by rw [hg.len]; exact hw.bl) (hdrsAt_below hg.hs hb1) (fun i w2 hi hb2 => by
      have hi2 : i < g.bags.length := by rw [← hg.len]; exact hi
      have hb3 := hb1.trans (hb2.mono hb1.size)
      rw [hg.hl i hi2]
      exact bag1_any i A C X _ _ (g.bags.getD i []) aa ca ac cc aggs c g.n w2 (cell_later hb2 hA) (cell_later hb2 hC) (cell_later hb2 hX) (aggsAt_below ha hb3) (intsAt_below hc hb3) (bagAt_below (hg.bag i hi2) hb3) (by omega) hal hcl (hcol i (by omega)) (hw.tl _ (hmem i hi2)).1 hw.n (hw.tl _ (hmem i hi2)).2)
    rw [hg.len] at k
    exact k
  obtain ⟨R, hR⟩ : ∃ z, bagsB c aggs g = z := ⟨_, rfl⟩
  have HR : Hid (bagsB c aggs g = R) := hR
  unfold bagsB at HR
  rw [hR]
  have hbl := hw.bl
  clear hR ha hc hg hw hcol hmem
  unfold grpV
  obtain ⟨AB, hAB⟩ : ∃ z, allB g.bags.length (fun i => bagB c (aggs.getD i (0, 0)) g.n (g.bags.getD i [])) = z := ⟨_, rfl⟩
  rw [hAB] at KE HR
  obtain ⟨bn, hbn⟩ : ∃ z, g.bags.length = z := ⟨_, rfl⟩
  obtain ⟨an, han⟩ : ∃ z, aggs.length = z := ⟨_, rfl⟩
  obtain ⟨cn, hcn⟩ : ∃ z, c.length = z := ⟨_, rfl⟩
  obtain ⟨rn, hrn⟩ : ∃ z, g.row.length = z := ⟨_, rfl⟩
  obtain ⟨gn, hgn⟩ : ∃ z, g.n = z := ⟨_, rfl⟩
  obtain ⟨xr, xrc, xb, xbc, xh⟩ := x
  dsimp only at KE ⊢
  rw [hbn, han, hcn, hgn] at KE
  rw [hbn, han] at HR
  rw [hbn] at hbl
  rw [han] at hal
  rw [hbn, han, hcn, hrn, hgn]
  clear hAB hbn han hcn hrn hgn
  have hb0 : Below w.heap.size w (((w.alloc (.cells #[.slice aa an ac] 23)).alloc (.cells #[.slice ca cn cc] 22)).alloc (.cells #[.slice xr rn xrc, .int .i64 gn, .slice xb bn xbc] 53)) := by
    repeat (first | exact Below.refl _ _ | (refine Below.alloc ?_ (by simp <;> omega) _))
  by_cases h1 : bn = an
  · subst h1
    have HE : Hid (AB = R) := by show _ = _; rw [← HR.out]; simp
    have KE2 : Hid (∀ w1, Below w.heap.size w w1 → w1.cell? ⟨w.heap.size, 0, none⟩ = some (.slice aa bn ac) → w1.cell? ⟨w.heap.size + 1, 0, none⟩ = some (.slice ca cn cc) → w1.cell? ⟨w.heap.size + 1 + 1, 1, none⟩ = some (.int .i64 gn) → Calls Tryz.prog 125 #[.slice xb bn xbc, .func (.func 126) #[] #[.pointer (some ⟨w.heap.size, 0, none⟩), .pointer (some ⟨w.heap.size + 1, 0, none⟩), .pointer (some ⟨w.heap.size + 1 + 1, 0, none⟩)]] w1 fun e w' => e = .returned (.bool AB) ∧ Below w1.heap.size w1 w') := fun w1 hb h1 h2 h3 => KE.out _ _ _ w1 hb rfl h1 h2 h3
    clear KE HR
    go_enter Tryz.func77, Tryz.ntmps77
    go_wp2_with (go_at_call 125; refine (KE2.out _ hb0 (by go_simp) (by go_simp) (by go_simp)).mono ?_; rintro e w1 ⟨rfl, hb1⟩)
    go_ret
    exact ⟨ret_bool HE.out, hb0.trans (hb1.mono hb0.size)⟩
  · have h1' : ((bn : Int) == (an : Int)) = false := by simp; omega
    have HE : Hid (false = R) := by show _ = _; rw [← HR.out]; simp [h1]
    clear KE HR
    go_enter Tryz.func77, Tryz.ntmps77
    go_wp2
    go_ret
    exact ⟨ret_bool HE.out, hb0⟩
end Go.Proofs.YtbfbgdinhiglaaaGreat.gr
/- The next operation of a drawn region, in the order of the text, into the next slot: one that yields, and one that its guard leaves out. -/
namespace Go.Proofs.YtbfbgdinhiglaaaGreat.gr
open Go.ChangeShapes Go.WideShapes Go.ChangeAt Go.RowKit
set_option linter.unusedVariables false
theorem skipJ {P : Program} {md : Region.Mode} {ops : Array Oper} {Q : Exit → Act → World → Prop} {S : World → Prop} {fuel : Nat} {listed : Array Bool} {a a' : Act} {w : World} {oi : Oper} (i : Nat) (d : Option Tmp) (hS : S w) (h : wpAnyH P md ops Q S fuel (listed.setIfInBounds i true) a' w)
    (hi : ops[i]? = some oi := by exact rfl) (hk : (Region.noSelect ops && (Region.free md ops listed i && (Region.ready md ops listed).contains i)) = true := by kernel_rfl) (hd : oi.dst = d := by exact rfl) (hw : Region.wanted oi (yielded ops a.tmps) = false := by exact rfl) (ha : a.put d undef = a' := by (simp only [Act.put, List.setIfInBounds_toArray, List.set_cons_zero, List.set_cons_succ]; exact rfl))
    (hQ : ∀ c a w, Q (.panic c) (a.put oi.dst undef) w → Q (.panic c) a w := by exact fun _ _ _ h => h) : wpAnyH P md ops Q S (fuel + 1) listed a w := by
  rw [Bool.and_eq_true, Bool.and_eq_true] at hk
  exact wpAnyH_take hi hk.1 hk.2.1 hk.2.2 hQ (Or.inr ⟨hw, rfl⟩) hS (by rw [hd, ha]; exact h)
theorem takeJ {P : Program} {md : Region.Mode} {ops : Array Oper} {Q : Exit → Act → World → Prop} {S : World → Prop} {fuel : Nat} {listed : Array Bool} {a a' : Act} {w : World} {oi : Oper} {v : Value} (i : Nat) (d : Option Tmp) (hS : S w) (h : wpAnyH P md ops Q S fuel (listed.setIfInBounds i true) a' w)
    (hi : ops[i]? = some oi := by exact rfl) (hk : (Region.noSelect ops && (Region.free md ops listed i && (Region.ready md ops listed).contains i)) = true := by kernel_rfl) (hd : oi.dst = d := by exact rfl) (hw : Region.wanted oi (yielded ops a.tmps) = true := by exact rfl) (hy : ∀ w, S w → (execOp a.eval oi).run P w = .ok (.value v) w := by (intro w' hSw; (try dsimp only at hSw); first | (go_simp; done) | (go_simp; with_reducible rfl))) (ha : a.put d v = a' := by (simp only [Act.put, List.setIfInBounds_toArray, List.set_cons_zero, List.set_cons_succ]; exact rfl))
    (hQ : ∀ c a w, Q (.panic c) (a.put oi.dst v) w → Q (.panic c) a w := by exact fun _ _ _ h => h) : wpAnyH P md ops Q S (fuel + 1) listed a w := by
  rw [Bool.and_eq_true, Bool.and_eq_true] at hk
  exact wpAnyH_take hi hk.1 hk.2.1 hk.2.2 hQ (Or.inl ⟨hw, hy⟩) hS (by rw [hd, ha]; exact h)
end Go.Proofs.YtbfbgdinhiglaaaGreat.gr
