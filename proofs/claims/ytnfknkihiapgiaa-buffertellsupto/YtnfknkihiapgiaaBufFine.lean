/- The document's entryFine and rises. -/
import Derived.Test.YtnfknkihiapgiaaBufSame
import Derived.Test.YtnfknkihiapgiaaBufSet
namespace Go.Proofs.Ytnfknkihiapgiaa.bf
open Go.ChangeShapes Go.WideShapes Go.ChangeAt Go.RowKit
open vl
set_option linter.unusedVariables false
set_option linter.unusedSimpArgs false
attribute [local go_sem] Oper.semAt_some
set_option maxHeartbeats 4000000 in
theorem rfine_any (e : EM) (x : Ent) (w : World) (h : ER w e x) (hw : wfE x) (hms : x.key.size ≤ 140737488355328) :
    Calls Try.prog 42 #[e.val] w fun r w' => r = .returned (.bool (fineB x)) ∧ Below w.heap.size w w' := by
  obtain ⟨k1, t1, s1, ⟨a1, b1, c1⟩, m1⟩ := e
  obtain ⟨h1, h2, h3, h4, h5, h6⟩ := h
  obtain ⟨xk, xt, xs, xr, xm⟩ := x
  obtain ⟨w1, w2, w3⟩ := hw
  dsimp only at h1 h2 h3 h4 h5 h6 w1 w2 w3 hms
  subst h1 h2 h3 h4 h5
  obtain ⟨R, hR⟩ : ∃ z, fineB ⟨k1, t1, s1, xr, m1⟩ = z := ⟨_, rfl⟩
  have HRt : Hid (fineE ⟨k1, t1, s1, xr, m1⟩ → true = R) := fun h => by rw [← hR, fineB_yes h]
  have HRf : Hid (¬ fineE ⟨k1, t1, s1, xr, m1⟩ → false = R) := fun h => by rw [← hR, fineB_no h]
  have KK : Hid (∀ w1, Below w.heap.size w w1 → Calls Try.prog 69 #[.slice a1 xr.length c1] w1 fun e w' => e = .returned (.int .i64 (keyErr xr)) ∧ Below w1.heap.size w1 w') := fun w1 hb => keyError_any a1 c1 xr w1 (vl.rowAt_below h6 hb) w2 w3
  have KF : Hid (∀ w1, Calls Try.prog 68 #[.int .i64 t1] w1 fun e w' => e = .returned (.bool (tm.fitB t1)) ∧ w' = w1) := fun w1 => tm.rfits_any t1 w1
  rw [hR]
  obtain ⟨ke, hke⟩ : ∃ z, keyErr xr = z := ⟨_, rfl⟩
  rw [hke] at KK
  have HKE : Hid (keyErr xr = ke) := hke
  obtain ⟨n, hn⟩ : ∃ z, xr.length = z := ⟨_, rfl⟩
  rw [hn] at KK
  unfold EM.val hdV
  dsimp only
  rw [hn]
  clear hR hke hn h6 w2 w3 w1
  have hb0 : Below w.heap.size w (w.alloc (.cells #[.string k1, .int .i64 t1, .int .i64 s1, .slice a1 n c1, .bool m1] 28)) := (Below.refl _ _).alloc (Nat.le_refl _) _
  cases hf : tm.fitB t1 with
  | false =>
    have HE : Hid (false = R) := HRf.out (fun h => by have := h.2.2.1; rw [hf] at this; cases this)
    rw [hf] at KF
    go_enter Try.func42, Try.ntmps42
    go_wp2_with (go_at_call 68; refine (KF.out _).mono ?_; rintro e w' ⟨rfl, hww⟩; subst hww)
    go_ret
    exact ⟨ret_bool HE.out, hb0⟩
  | true =>
    rw [hf] at KF
    by_cases s0 : s1 < 0
    · have HE : Hid (false = R) := HRf.out (fun h => by have := h.2.2.2.1; dsimp only at this; omega)
      go_enter Try.func42, Try.ntmps42
      go_wp2_with (go_at_call 68; refine (KF.out _).mono ?_; rintro e w' ⟨rfl, hww⟩; subst hww)
      go_ret
      exact ⟨ret_bool HE.out, hb0⟩
    · by_cases s2 : s1 > 1099511627776
      · have HE : Hid (false = R) := HRf.out (fun h => by have := h.2.2.2.2; dsimp only at this; omega)
        go_enter Try.func42, Try.ntmps42
        go_wp2_with (go_at_call 68; refine (KF.out _).mono ?_; rintro e w' ⟨rfl, hww⟩; subst hww)
        go_ret
        exact ⟨ret_bool HE.out, hb0⟩
      · by_cases h0 : ke = 0
        · subst h0
          obtain ⟨IB, hIB⟩ : ∃ IB : Bool, (IB = true ↔ isKey k1) := by
            rcases Classical.em (isKey k1) with h | h
            · exact ⟨true, by simp [h]⟩
            · exact ⟨false, by simp [h]⟩
          have KB : Hid (∀ w1, Calls Try.prog 70 #[.string k1] w1 fun e w' => (∃ ad len cap, e = .returned (.tuple #[.slice ad len cap, .bool IB])) ∧ Below w1.heap.size w1 w') := fun w1 => by
            cases hI : IB with
            | true =>
              obtain ⟨r0, hr0, hk0⟩ := hIB.1 hI
              exact (rback_yes k1 r0 w1 hms hr0 hk0).mono (fun e w' ⟨⟨ad, cap, he, _⟩, hb⟩ => ⟨⟨ad, _, cap, he⟩, hb⟩)
            | false =>
              have hno : ¬ isKey k1 := fun h => by have := hIB.2 h; rw [hI] at this; cases this
              exact (rback_no k1 w1 hms (no_key hno)).mono (fun e w' ⟨he, hb⟩ => ⟨⟨_, _, _, he⟩, hb⟩)
          have HE : Hid (IB = R) := by
            show IB = R
            cases hI : IB with
            | true => exact HRt.out ⟨hIB.1 hI, HKE.out, hf, by dsimp only; omega, by dsimp only; omega⟩
            | false => exact HRf.out (fun h => by have := hIB.2 h.1; rw [hI] at this; cases this)
          clear hIB
          go_enter Try.func42, Try.ntmps42
          go_wp2_with
            (first
              | (go_at_call 68; refine (KF.out _).mono ?_; rintro e w' ⟨rfl, hww⟩; subst hww)
              | (go_at_call 69; refine (KK.out _ hb0).mono ?_; rintro e wa ⟨rfl, hb1⟩; have hba : Below w.heap.size w wa := hb0.trans (hb1.mono hb0.size); have c0 : wa.cell? ⟨w.heap.size, 0, none⟩ = some (.string k1) := (by rw [hb1.cell (p := ⟨w.heap.size, 0, none⟩) (by simp)]; go_simp))
              | (go_at_call 70; refine (KB.out _).mono ?_; rintro e wb ⟨⟨ad, len, cap, rfl⟩, hb2⟩))
          go_ret
          exact ⟨ret_bool HE.out, hba.trans (hb2.mono hba.size)⟩
        · have h0' : (ke != 0) = true := by simpa using h0
          have HE : Hid (false = R) := HRf.out (fun h => h0 (by rw [← HKE.out]; exact h.2.1))
          have KB : Hid True := trivial
          go_enter Try.func42, Try.ntmps42
          go_wp2_with (first
            | (go_at_call 68; refine (KF.out _).mono ?_; rintro e w' ⟨rfl, hww⟩; subst hww)
            | (go_at_call 69; refine (KK.out _ hb0).mono ?_; rintro e wa ⟨rfl, hb1⟩; have hba : Below w.heap.size w wa := hb0.trans (hb1.mono hb0.size)))
          go_ret
          exact ⟨ret_bool HE.out, hba⟩
/-- do places rise? -/
def upB (l : List Ent) : Bool := allB (l.length - 1) fun i => decide (ltP (l.getD i default) (l.getD (i + 1) default))
theorem upB_iff {l : List Ent} : upB l = true ↔ Rise l := by
  unfold upB
  rw [allB_iff]
  constructor
  · exact fun h => rise_steps fun i hi => of_decide_eq_true (h i (by omega))
  · exact fun h i hi => decide_eq_true (steps_rise h i (by omega))
theorem wrap_is' (x : Int) : IntKind.i64.wrap x = (x + 9223372036854775808) % 18446744073709551616 - 9223372036854775808 := by
  simp only [IntKind.wrap, IntKind.signed, IntKind.bits]
  simp
  split <;> omega
set_option maxRecDepth 100000 in
set_option maxHeartbeats 8000000 in
theorem rises_any (a : Option Addr) (c : Nat) (es : List EM) (l : List Ent) (w : World) (ha : emsAt w a es) (hr : ERs w es l) (hl : l.length ≤ 1000000) :
    Calls Try.prog 40 #[.slice a l.length c] w fun e w' => e = .returned (.bool (upB l)) ∧ Below w.heap.size w w' := by
  have HA : Hid (emsAt w a es) := ha
  have HR : Hid (ERs w es l) := hr
  obtain ⟨R, hR⟩ : ∃ z, upB l = z := ⟨_, rfl⟩
  have HF : Hid (∀ k, k + 1 < l.length → ¬ ltP (l.getD k default) (l.getD (k + 1) default) → false = R) := fun k hk h => by
    rw [← hR]; unfold upB; exact (allB_no (by omega) (decide_eq_false h)).symm
  have HT : Hid ((∀ k, k + 1 < l.length → ltP (l.getD k default) (l.getD (k + 1) default)) → true = R) := fun h => by
    rw [← hR]; exact (upB_iff.2 (rise_steps h)).symm
  rw [hR]
  obtain ⟨n, hn⟩ : ∃ n, l.length = n := ⟨_, rfl⟩
  have HN : Hid (l.length = n) := hn
  rw [hn] at hl HF HT ⊢
  clear hn ha hr hR
  go_enter Try.func40, Try.ntmps40
  go_wp2
  go_loopw [3] (fun i wr => ∃ k : Nat, (k = 0 ∨ k + 1 ≤ n) ∧ i = .int .i64 ((k : Int) + 1) ∧ Below w.heap.size w wr ∧ ∀ j, j < k → ltP (l.getD j default) (l.getD (j + 1) default)) (fun i _ => n - (intOf i).toNat)
  case atStart => exact ⟨0, .inl rfl, rfl, Below.refl _ _, fun j hj => absurd hj (Nat.not_lt_zero j)⟩
  case round =>
    obtain ⟨k, hk, rfl, hnx, hall⟩ := hrel
    have HAL : Hid (∀ j, j < k → ltP (l.getD j default) (l.getD (j + 1) default)) := hall
    clear hall
    by_cases hlt : k + 1 < n
    · obtain ⟨b1, o1, e1, x1, x2, x3, x4, x5⟩ := HA.out k (by rw [HR.out.1, HN.out]; omega)
      obtain ⟨b2, o2, e2, y1, y2, y3, y4, y5⟩ := HA.out (k + 1) (by rw [HR.out.1, HN.out]; exact hlt)
      rw [e1] at e2
      cases e2
      subst e1
      have z1 := cell_later hnx x1
      have z2 := cell_later hnx x2
      have z3 := cell_later hnx x3
      have z4 := cell_later hnx x4
      have z5 := cell_later hnx x5
      have u1 := cell_later hnx y1
      have u2 := cell_later hnx y2
      have u3 := cell_later hnx y3
      have u4 := cell_later hnx y4
      have u5 := cell_later hnx y5
      clear x1 x2 x3 x4 x5 y1 y2 y3 y4 y5
      have h1 := HR.out.2 k (by rw [HN.out]; omega)
      have h2 := HR.out.2 (k + 1) (by rw [HN.out]; exact hlt)
      have KC : Hid (∀ w1, Calls Try.prog 55 #[(es.getD k default).val, (es.getD (k + 1) default).val] w1 fun r w' => r = .returned (.int .i64 (cmpP (l.getD k default) (l.getD (k + 1) default))) ∧ Below w1.heap.size w1 w') := fun w1 => by
        have k0 := rcomp_any (es.getD k default) (es.getD (k + 1) default) w1
        rwa [cmpP_ent h1 h2] at k0
      obtain ⟨cv, hcv⟩ : ∃ z, cmpP (l.getD k default) (l.getD (k + 1) default) = z := ⟨_, rfl⟩
      have HCV : Hid (cmpP (l.getD k default) (l.getD (k + 1) default) = cv) := hcv
      rw [hcv] at KC
      obtain ⟨⟨ek, et, es1, ⟨r1, r2, r3⟩, em⟩, hz⟩ : ∃ z, es.getD k default = z := ⟨_, rfl⟩
      obtain ⟨⟨fk, ft, fs, ⟨q1, q2, q3⟩, fm⟩, hz'⟩ : ∃ z, es.getD (k + 1) default = z := ⟨_, rfl⟩
      rw [hz] at z1 z2 z3 z4 z5 KC
      rw [hz'] at u1 u2 u3 u4 u5 KC
      unfold EM.val hdV at KC
      unfold hdV at z4 u4
      dsimp only at z1 z2 z3 z4 z5 u1 u2 u3 u4 u5 KC
      clear hz hz' hcv h1 h2
      have i1 : (0 : Int) ≤ (k : Int) := by omega
      have i2 : (k : Int) < (n : Int) := by omega
      have i3 : (0 : Int) ≤ (k : Int) + 1 := by omega
      have i4 : (k : Int) + 1 < (n : Int) := by omega
      have hw1 : IntKind.i64.wrap ((k : Int) + 1 - 1) = (k : Int) := by rw [wrap_is']; omega
      have hw3 : (k : Int) + 1 - 1 = (k : Int) := by omega
      have hw4 : IntKind.i64.wrap (k : Int) = (k : Int) := by rw [wrap_is']; omega
      have hw5 : IntKind.i64.wrap ((k : Int) + 1) = (k : Int) + 1 := by rw [wrap_is']; omega
      have hw2 : ((k : Int) + 1).toNat = k + 1 := by omega
      by_cases v1 : cv < 0
      · have v1' : ¬ cv ≥ 0 := by omega
        have HLT : Hid (ltP (l.getD k default) (l.getD (k + 1) default)) := cmpP_neg.1 (by rw [HCV.out]; exact v1)
        go_wp2
        go_region_held3
          (fun w' => w'.cell? ⟨b1, o1 + k * 5, none⟩ = some (.string ek) ∧ w'.cell? ⟨b1, o1 + k * 5 + 1, none⟩ = some (.int .i64 et) ∧ w'.cell? ⟨b1, o1 + k * 5 + 1 + 1, none⟩ = some (.int .i64 es1) ∧ w'.cell? ⟨b1, o1 + k * 5 + 1 + 1 + 1, none⟩ = some (.slice r1 r2 r3) ∧ w'.cell? ⟨b1, o1 + k * 5 + 1 + 1 + 1 + 1, none⟩ = some (.bool em) ∧ w'.cell? ⟨b1, o1 + (k + 1) * 5, none⟩ = some (.string fk) ∧ w'.cell? ⟨b1, o1 + (k + 1) * 5 + 1, none⟩ = some (.int .i64 ft) ∧ w'.cell? ⟨b1, o1 + (k + 1) * 5 + 1 + 1, none⟩ = some (.int .i64 fs) ∧ w'.cell? ⟨b1, o1 + (k + 1) * 5 + 1 + 1 + 1, none⟩ = some (.slice q1 q2 q3) ∧ w'.cell? ⟨b1, o1 + (k + 1) * 5 + 1 + 1 + 1 + 1, none⟩ = some (.bool fm))
          (first | go_keep | exact ⟨cell_later hbq z1, cell_later hbq z2, cell_later hbq z3, cell_later hbq z4, cell_later hbq z5, cell_later hbq u1, cell_later hbq u2, cell_later hbq u3, cell_later hbq u4, cell_later hbq u5⟩)
          (first | (go_at_call 55; refine (KC.out _).mono ?_; rintro e wq ⟨rfl, hbq0⟩; have hbq : Below wr.heap.size wr wq := (Below.refl _ _).drew.trans hbq0))
        all_goals
          go_wp2
          go_roundw
          case rel => exact ⟨k + 1, .inr (by omega), by go_num, hnx.trans (hbq.mono hnx.size), fun j hj => by
            rcases Nat.lt_succ_iff_lt_or_eq.1 hj with h | h
            · exact HAL.out j h
            · rw [h]; exact HLT.out⟩
          case measure => simp [intOf]; omega
      · have v1' : cv ≥ 0 := by omega
        have HE : Hid (false = R) := HF.out k hlt (fun h => v1 (by rw [← HCV.out]; exact cmpP_neg.2 h))
        go_wp2
        go_region_held3
          (fun w' => w'.cell? ⟨b1, o1 + k * 5, none⟩ = some (.string ek) ∧ w'.cell? ⟨b1, o1 + k * 5 + 1, none⟩ = some (.int .i64 et) ∧ w'.cell? ⟨b1, o1 + k * 5 + 1 + 1, none⟩ = some (.int .i64 es1) ∧ w'.cell? ⟨b1, o1 + k * 5 + 1 + 1 + 1, none⟩ = some (.slice r1 r2 r3) ∧ w'.cell? ⟨b1, o1 + k * 5 + 1 + 1 + 1 + 1, none⟩ = some (.bool em) ∧ w'.cell? ⟨b1, o1 + (k + 1) * 5, none⟩ = some (.string fk) ∧ w'.cell? ⟨b1, o1 + (k + 1) * 5 + 1, none⟩ = some (.int .i64 ft) ∧ w'.cell? ⟨b1, o1 + (k + 1) * 5 + 1 + 1, none⟩ = some (.int .i64 fs) ∧ w'.cell? ⟨b1, o1 + (k + 1) * 5 + 1 + 1 + 1, none⟩ = some (.slice q1 q2 q3) ∧ w'.cell? ⟨b1, o1 + (k + 1) * 5 + 1 + 1 + 1 + 1, none⟩ = some (.bool fm))
          (first | go_keep | exact ⟨cell_later hbq z1, cell_later hbq z2, cell_later hbq z3, cell_later hbq z4, cell_later hbq z5, cell_later hbq u1, cell_later hbq u2, cell_later hbq u3, cell_later hbq u4, cell_later hbq u5⟩)
          (first | (go_at_call 55; refine (KC.out _).mono ?_; rintro e wq ⟨rfl, hbq0⟩; have hbq : Below wr.heap.size wr wq := (Below.refl _ _).drew.trans hbq0))
        all_goals
          go_wp2
          go_ret
          exact ⟨ret_bool HE.out, hnx.trans (hbq.mono hnx.size)⟩
    · have HE : Hid (true = R) := HT.out (fun j hj => HAL.out j (by omega))
      have i5 : ¬ (k : Int) + 1 < (n : Int) := by omega
      go_wp2
      go_ret
      exact ⟨ret_bool HE.out, hnx⟩
end Go.Proofs.Ytnfknkihiapgiaa.bf
