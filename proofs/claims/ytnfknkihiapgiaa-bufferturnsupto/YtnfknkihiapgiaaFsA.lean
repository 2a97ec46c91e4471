/- Several texts in one: BufFine, BufSameB, BufRCheck, BufROwn. -/
import Derived.Test.YtnfknkihiapgiaaBufSame
import Derived.Test.YtnfknkihiapgiaaBufSet
import Derived.Deep.RegionHeld3
import Derived.Test.YtnfknkihiapgiaaFrC
/- The document's entryFine and rises. -/
namespace Go.Proofs.Ytnfknkihiapgiaa.bf
open Go.ChangeShapes Go.WideShapes Go.ChangeAt Go.RowKit
open vl
set_option linter.unusedVariables false
set_option linter.unusedSimpArgs false
attribute [local go_sem] Oper.semAt_some
set_option maxHeartbeats 4000000 in
theorem rfine_any (e : EM) (x : Ent) (w : World) (h : ER w e x) (hw : wfE x) (hms : x.key.size ≤ 140737488355328) :
    Calls Try.prog 42 #[e.val] w fun r w' => r = .returned (.bool (fineB x)) ∧ Below w.heap.size w w' := by
  obtain ⟨k1, t1, s1, ⟨a1, b1, c1⟩, m1⟩ := e
  obtain ⟨h1, h2, h3, h4, h5, h6⟩ := h
  obtain ⟨xk, xt, xs, xr, xm⟩ := x
  obtain ⟨w1, w2, w3⟩ := hw
  dsimp only at h1 h2 h3 h4 h5 h6 w1 w2 w3 hms
  subst h1 h2 h3 h4 h5
  obtain ⟨R, hR⟩ : ∃ z, fineB ⟨k1, t1, s1, xr, m1⟩ = z := ⟨_, rfl⟩
  have HRt : Hid (fineE ⟨k1, t1, s1, xr, m1⟩ → true = R) := fun h => by rw [← hR, fineB_yes h]
  have HRf : Hid (¬ fineE ⟨k1, t1, s1, xr, m1⟩ → false = R) := fun h => by rw [← hR, fineB_no h]
  have KK : Hid (∀ w1, Below w.heap.size w w1 → Calls Try.prog 69 #[.slice a1 xr.length c1] w1 fun e w' => e = .returned (.int .i64 (keyErr xr)) ∧ Below w1.heap.size w1 w') := fun w1 hb => keyError_any a1 c1 xr w1 (vl.rowAt_below h6 hb) w2 w3
  have KF : Hid (∀ w1, Calls Try.prog 68 #[.int .i64 t1] w1 fun e w' => e = .returned (.bool (tm.fitB t1)) ∧ w' = w1) := fun w1 => tm.rfits_any t1 w1
  rw [hR]
  obtain ⟨ke, hke⟩ : ∃ z, keyErr xr = z := ⟨_, rfl⟩
  rw [hke] at KK
  have HKE : Hid (keyErr xr = ke) := hke
  obtain ⟨n, hn⟩ : ∃ z, xr.length = z := ⟨_, rfl⟩
  rw [hn] at KK
  unfold EM.val hdV
  dsimp only
  rw [hn]
  clear hR hke hn h6 w2 w3 w1
  have hb0 : Below w.heap.size w (w.alloc (.cells #[.string k1, .int .i64 t1, .int .i64 s1, .slice a1 n c1, .bool m1] 28)) := (Below.refl _ _).alloc (Nat.le_refl _) _
  cases hf : tm.fitB t1 with
  | false =>
    have HE : Hid (false = R) := HRf.out (fun h => by have := h.2.2.1; rw [hf] at this; cases this)
    rw [hf] at KF
    go_enter Try.func42, Try.ntmps42
    go_wp2_with (go_at_call 68; refine (KF.out _).mono ?_; rintro e w' ⟨rfl, hww⟩; subst hww)
    go_ret
    exact ⟨ret_bool HE.out, hb0⟩
  | true =>
    rw [hf] at KF
    by_cases s0 : s1 < 0
    · have HE : Hid (false = R) := HRf.out (fun h => by have := h.2.2.2.1; dsimp only at this; omega)
      go_enter Try.func42, Try.ntmps42
      go_wp2_with (go_at_call 68; refine (KF.out _).mono ?_; rintro e w' ⟨rfl, hww⟩; subst hww)
      go_ret
      exact ⟨ret_bool HE.out, hb0⟩
    · by_cases s2 : s1 > 1099511627776
      · have HE : Hid (false = R) := HRf.out (fun h => by have := h.2.2.2.2; dsimp only at this; omega)
        go_enter Try.func42, Try.ntmps42
        go_wp2_with (go_at_call 68; refine (KF.out _).mono ?_; rintro e w' ⟨rfl, hww⟩; subst hww)
        go_ret
        exact ⟨ret_bool HE.out, hb0⟩
      · by_cases h0 : ke = 0
        · subst h0
          obtain ⟨IB, hIB⟩ : ∃ IB : Bool, (IB = true ↔ isKey k1) := by
            rcases Classical.em (isKey k1) with h | h
            · exact ⟨true, by simp [h]⟩
            · exact ⟨false, by simp [h]⟩
          have KB : Hid (∀ w1, Calls Try.prog 70 #[.string k1] w1 fun e w' => (∃ ad len cap, e = .returned (.tuple #[.slice ad len cap, .bool IB])) ∧ Below w1.heap.size w1 w') := fun w1 => by
            cases hI : IB with
            | true =>
              obtain ⟨r0, hr0, hk0⟩ := hIB.1 hI
              exact (rback_yes k1 r0 w1 hms hr0 hk0).mono (fun e w' ⟨⟨ad, cap, he, _⟩, hb⟩ => ⟨⟨ad, _, cap, he⟩, hb⟩)
            | false =>
              have hno : ¬ isKey k1 := fun h => by have := hIB.2 h; rw [hI] at this; cases this
              exact (rback_no k1 w1 hms (no_key hno)).mono (fun e w' ⟨he, hb⟩ => ⟨⟨_, _, _, he⟩, hb⟩)
          have HE : Hid (IB = R) := by
            show IB = R
            cases hI : IB with
            | true => exact HRt.out ⟨hIB.1 hI, HKE.out, hf, by dsimp only; omega, by dsimp only; omega⟩
            | false => exact HRf.out (fun h => by have := hIB.2 h.1; rw [hI] at this; cases this)
          clear hIB
          go_enter Try.func42, Try.ntmps42
          go_wp2_with
            (first
              | (go_at_call 68; refine (KF.out _).mono ?_; rintro e w' ⟨rfl, hww⟩; subst hww)
              | (go_at_call 69; refine (KK.out _ hb0).mono ?_; rintro e wa ⟨rfl, hb1⟩; have hba : Below w.heap.size w wa := hb0.trans (hb1.mono hb0.size); have c0 : wa.cell? ⟨w.heap.size, 0, none⟩ = some (.string k1) := (by rw [hb1.cell (p := ⟨w.heap.size, 0, none⟩) (by simp)]; go_simp))
              | (go_at_call 70; refine (KB.out _).mono ?_; rintro e wb ⟨⟨ad, len, cap, rfl⟩, hb2⟩))
          go_ret
          exact ⟨ret_bool HE.out, hba.trans (hb2.mono hba.size)⟩
        · have h0' : (ke != 0) = true := by simpa using h0
          have HE : Hid (false = R) := HRf.out (fun h => h0 (by rw [← HKE.out]; exact h.2.1))
          have KB : Hid True := trivial
          go_enter Try.func42, Try.ntmps42
          go_wp2_with (first
            | (go_at_call 68; refine (KF.out _).mono ?_; rintro e w' ⟨rfl, hww⟩; subst hww)
            | (go_at_call 69; refine (KK.out _ hb0).mono ?_; rintro e wa ⟨rfl, hb1⟩; have hba : Below w.heap.size w wa := hb0.trans (hb1.mono hb0.size)))
          go_ret
          exact ⟨ret_bool HE.out, hba⟩
/-- do places rise? -/
def upB (l : List Ent) : Bool := allB (l.length - 1) fun i => decide (ltP (l.getD i default) (l.getD (i + 1) default))
theorem upB_iff {l : List Ent} : upB l = true ↔ Rise l := by
  unfold upB
  rw [allB_iff]
  constructor
  · exact fun h => rise_steps fun i hi => of_decide_eq_true (h i (by omega))
  · exact fun h i hi => decide_eq_true (steps_rise h i (by omega))
theorem wrap_is' (x : Int) : IntKind.i64.wrap x = (x + 9223372036854775808) % 18446744073709551616 - 9223372036854775808 := by
  simp only [IntKind.wrap, IntKind.signed, IntKind.bits]
  simp
  split <;> omega
set_option maxRecDepth 100000 in
set_option maxHeartbeats 8000000 in
theorem rises_any (a : Option Addr) (c : Nat) (es : List EM) (l : List Ent) (w : World) (ha : emsAt w a es) (hr : ERs w es l) (hl : l.length ≤ 1000000) :
    Calls Try.prog 40 #[.slice a l.length c] w fun e w' => e = .returned (.bool (upB l)) ∧ Below w.heap.size w w' := by
  have HA : Hid (emsAt w a es) := ha
  have HR : Hid (ERs w es l) := hr
  obtain ⟨R, hR⟩ : ∃ z, upB l = z := ⟨_, rfl⟩
  have HF : Hid (∀ k, k + 1 < l.length → ¬ ltP (l.getD k default) (l.getD (k + 1) default) → false = R) := fun k hk h => by
    rw [← hR]; unfold upB; exact (allB_no (by omega) (decide_eq_false h)).symm
  have HT : Hid ((∀ k, k + 1 < l.length → ltP (l.getD k default) (l.getD (k + 1) default)) → true = R) := fun h => by
    rw [← hR]; exact (upB_iff.2 (rise_steps h)).symm
  rw [hR]
  obtain ⟨n, hn⟩ : ∃ n, l.length = n := ⟨_, rfl⟩
  have HN : Hid (l.length = n) := hn
  rw [hn] at hl HF HT ⊢
  clear hn ha hr hR
  go_enter Try.func40, Try.ntmps40
  go_wp2
  go_loopw [3] (fun i wr => ∃ k : Nat, (k = 0 ∨ k + 1 ≤ n) ∧ i = .int .i64 ((k : Int) + 1) ∧ Below w.heap.size w wr ∧ ∀ j, j < k → ltP (l.getD j default) (l.getD (j + 1) default)) (fun i _ => n - (intOf i).toNat)
  case atStart => exact ⟨0, .inl rfl, rfl, Below.refl _ _, fun j hj => absurd hj (Nat.not_lt_zero j)⟩
  case round =>
    obtain ⟨k, hk, rfl, hnx, hall⟩ := hrel
    have HAL : Hid (∀ j, j < k → ltP (l.getD j default) (l.getD (j + 1) default)) := hall
    clear hall
    by_cases hlt : k + 1 < n
    · obtain ⟨b1, o1, e1, x1, x2, x3, x4, x5⟩ := HA.out k (by rw [HR.out.1, HN.out]; omega)
      obtain ⟨b2, o2, e2, y1, y2, y3, y4, y5⟩ := HA.out (k + 1) (by rw [HR.out.1, HN.out]; exact hlt)
      rw [e1] at e2
      cases e2
      subst e1
      have z1 := cell_later hnx x1
      have z2 := cell_later hnx x2
      have z3 := cell_later hnx x3
      have z4 := cell_later hnx x4
      have z5 := cell_later hnx x5
      have u1 := cell_later hnx y1
      have u2 := cell_later hnx y2
      have u3 := cell_later hnx y3
      have u4 := cell_later hnx y4
      have u5 := cell_later hnx y5
      clear x1 x2 x3 x4 x5 y1 y2 y3 y4 y5
      have h1 := HR.out.2 k (by rw [HN.out]; omega)
      have h2 := HR.out.2 (k + 1) (by rw [HN.out]; exact hlt)
      have KC : Hid (∀ w1, Calls Try.prog 55 #[(es.getD k default).val, (es.getD (k + 1) default).val] w1 fun r w' => r = .returned (.int .i64 (cmpP (l.getD k default) (l.getD (k + 1) default))) ∧ Below w1.heap.size w1 w') := fun w1 => by
        have k0 := rcomp_any (es.getD k default) (es.getD (k + 1) default) w1
        rwa [cmpP_ent h1 h2] at k0
      obtain ⟨cv, hcv⟩ : ∃ z, cmpP (l.getD k default) (l.getD (k + 1) default) = z := ⟨_, rfl⟩
      have HCV : Hid (cmpP (l.getD k default) (l.getD (k + 1) default) = cv) := hcv
      rw [hcv] at KC
      obtain ⟨⟨ek, et, es1, ⟨r1, r2, r3⟩, em⟩, hz⟩ : ∃ z, es.getD k default = z := ⟨_, rfl⟩
      obtain ⟨⟨fk, ft, fs, ⟨q1, q2, q3⟩, fm⟩, hz'⟩ : ∃ z, es.getD (k + 1) default = z := ⟨_, rfl⟩
      rw [hz] at z1 z2 z3 z4 z5 KC
      rw [hz'] at u1 u2 u3 u4 u5 KC
      unfold EM.val hdV at KC
      unfold hdV at z4 u4
      dsimp only at z1 z2 z3 z4 z5 u1 u2 u3 u4 u5 KC
      clear hz hz' hcv h1 h2
      have i1 : (0 : Int) ≤ (k : Int) := by omega
      have i2 : (k : Int) < (n : Int) := by omega
      have i3 : (0 : Int) ≤ (k : Int) + 1 := by omega
      have i4 : (k : Int) + 1 < (n : Int) := by omega
      have hw1 : IntKind.i64.wrap ((k : Int) + 1 - 1) = (k : Int) := by rw [wrap_is']; omega
      have hw3 : (k : Int) + 1 - 1 = (k : Int) := by omega
      have hw4 : IntKind.i64.wrap (k : Int) = (k : Int) := by rw [wrap_is']; omega
      have hw5 : IntKind.i64.wrap ((k : Int) + 1) = (k : Int) + 1 := by rw [wrap_is']; omega
      have hw2 : ((k : Int) + 1).toNat = k + 1 := by omega
      by_cases v1 : cv < 0
      · have v1' : ¬ cv ≥ 0 := by omega
        have HLT : Hid (ltP (l.getD k default) (l.getD (k + 1) default)) := cmpP_neg.1 (by rw [HCV.out]; exact v1)
        go_wp2
        go_region_held3
          (fun w' => w'.cell? ⟨b1, o1 + k * 5, none⟩ = some (.string ek) ∧ w'.cell? ⟨b1, o1 + k * 5 + 1, none⟩ = some (.int .i64 et) ∧ w'.cell? ⟨b1, o1 + k * 5 + 1 + 1, none⟩ = some (.int .i64 es1) ∧ w'.cell? ⟨b1, o1 + k * 5 + 1 + 1 + 1, none⟩ = some (.slice r1 r2 r3) ∧ w'.cell? ⟨b1, o1 + k * 5 + 1 + 1 + 1 + 1, none⟩ = some (.bool em) ∧ w'.cell? ⟨b1, o1 + (k + 1) * 5, none⟩ = some (.string fk) ∧ w'.cell? ⟨b1, o1 + (k + 1) * 5 + 1, none⟩ = some (.int .i64 ft) ∧ w'.cell? ⟨b1, o1 + (k + 1) * 5 + 1 + 1, none⟩ = some (.int .i64 fs) ∧ w'.cell? ⟨b1, o1 + (k + 1) * 5 + 1 + 1 + 1, none⟩ = some (.slice q1 q2 q3) ∧ w'.cell? ⟨b1, o1 + (k + 1) * 5 + 1 + 1 + 1 + 1, none⟩ = some (.bool fm))
          (first | go_keep | exact ⟨cell_later hbq z1, cell_later hbq z2, cell_later hbq z3, cell_later hbq z4, cell_later hbq z5, cell_later hbq u1, cell_later hbq u2, cell_later hbq u3, cell_later hbq u4, cell_later hbq u5⟩)
          (first | (go_at_call 55; refine (KC.out _).mono ?_; rintro e wq ⟨rfl, hbq0⟩; have hbq : Below wr.heap.size wr wq := (Below.refl _ _).drew.trans hbq0))
        all_goals
          go_wp2
          go_roundw
          case rel => exact ⟨k + 1, .inr (by omega), by go_num, hnx.trans (hbq.mono hnx.size), fun j hj => by
            rcases Nat.lt_succ_iff_lt_or_eq.1 hj with h | h
            · exact HAL.out j h
            · rw [h]; exact HLT.out⟩
          case measure => simp [intOf]; omega
      · have v1' : cv ≥ 0 := by omega
        have HE : Hid (false = R) := HF.out k hlt (fun h => v1 (by rw [← HCV.out]; exact cmpP_neg.2 h))
        go_wp2
        go_region_held3
          (fun w' => w'.cell? ⟨b1, o1 + k * 5, none⟩ = some (.string ek) ∧ w'.cell? ⟨b1, o1 + k * 5 + 1, none⟩ = some (.int .i64 et) ∧ w'.cell? ⟨b1, o1 + k * 5 + 1 + 1, none⟩ = some (.int .i64 es1) ∧ w'.cell? ⟨b1, o1 + k * 5 + 1 + 1 + 1, none⟩ = some (.slice r1 r2 r3) ∧ w'.cell? ⟨b1, o1 + k * 5 + 1 + 1 + 1 + 1, none⟩ = some (.bool em) ∧ w'.cell? ⟨b1, o1 + (k + 1) * 5, none⟩ = some (.string fk) ∧ w'.cell? ⟨b1, o1 + (k + 1) * 5 + 1, none⟩ = some (.int .i64 ft) ∧ w'.cell? ⟨b1, o1 + (k + 1) * 5 + 1 + 1, none⟩ = some (.int .i64 fs) ∧ w'.cell? ⟨b1, o1 + (k + 1) * 5 + 1 + 1 + 1, none⟩ = some (.slice q1 q2 q3) ∧ w'.cell? ⟨b1, o1 + (k + 1) * 5 + 1 + 1 + 1 + 1, none⟩ = some (.bool fm))
          (first | go_keep | exact ⟨cell_later hbq z1, cell_later hbq z2, cell_later hbq z3, cell_later hbq z4, cell_later hbq z5, cell_later hbq u1, cell_later hbq u2, cell_later hbq u3, cell_later hbq u4, cell_later hbq u5⟩)
          (first | (go_at_call 55; refine (KC.out _).mono ?_; rintro e wq ⟨rfl, hbq0⟩; have hbq : Below wr.heap.size wr wq := (Below.refl _ _).drew.trans hbq0))
        all_goals
          go_wp2
          go_ret
          exact ⟨ret_bool HE.out, hnx.trans (hbq.mono hnx.size)⟩
    · have HE : Hid (true = R) := HT.out (fun j hj => HAL.out j (by omega))
      have i5 : ¬ (k : Int) + 1 < (n : Int) := by omega
      go_wp2
      go_ret
      exact ⟨ret_bool HE.out, hnx⟩
end Go.Proofs.Ytnfknkihiapgiaa.bf

/- The document's SameBuffers, of what is the same. -/
namespace Go.Proofs.Ytnfknkihiapgiaa.bf
open Go.ChangeShapes Go.WideShapes Go.ChangeAt Go.RowKit
open vl
set_option linter.unusedVariables false
set_option linter.unusedSimpArgs false
attribute [local go_sem] Oper.semAt_some
theorem part_same {w : World} {b : Buf} {x x' : BX} (h : bufAt w b x) (h' : bufAt w b x') (hl : ∀ l ∈ partsB b, l.length ≤ 9223372036854775807) (hr : ∀ y ∈ entsB b, y.row.length ≤ 9223372036854775807) (i : Nat) (hi : i < b.runs.length) :
    Calls Try.prog 24 #[hdV (x.rs.getD i default).1, hdV (x'.rs.getD i default).1] w fun e w' => e = .returned (.bool true) ∧ Below w.heap.size w w' := by
  have g1 : x.rs.getD i default ∈ x.m :: x.rs := List.mem_cons_of_mem _ (mem_getD (by rw [h.rlen]; exact hi))
  have g2 : x'.rs.getD i default ∈ x'.m :: x'.rs := List.mem_cons_of_mem _ (mem_getD (by rw [h'.rlen]; exact hi))
  have e1 := h.runs i hi
  have e2 := h'.runs i hi
  have hm : b.runs.getD i default ∈ partsB b := List.mem_cons_of_mem _ (mem_getD hi)
  have k := sameE_eq (x.rs.getD i default).1.1 (x'.rs.getD i default).1.1 (x.rs.getD i default).1.2.2 (x'.rs.getD i default).1.2.2 _ _ (b.runs.getD i default) w (h.ems _ g1) e1 (h'.ems _ g2) e2 (hl _ hm) (fun y hy => hr y (List.mem_flatten.2 ⟨_, hm, hy⟩))
  unfold hdV
  rw [(h.len _ g1).1, (h'.len _ g2).1, e1.1, e2.1]
  exact k
theorem mem_same {w : World} {b : Buf} {x x' : BX} (h : bufAt w b x) (h' : bufAt w b x') (hl : ∀ l ∈ partsB b, l.length ≤ 9223372036854775807) (hr : ∀ y ∈ entsB b, y.row.length ≤ 9223372036854775807) :
    Calls Try.prog 24 #[hdV x.m.1, hdV x'.m.1] w fun e w' => e = .returned (.bool true) ∧ Below w.heap.size w w' := by
  have g1 : x.m ∈ x.m :: x.rs := List.mem_cons_self ..
  have g2 : x'.m ∈ x'.m :: x'.rs := List.mem_cons_self ..
  have hm : b.mem ∈ partsB b := List.mem_cons_self ..
  have k := sameE_eq x.m.1.1 x'.m.1.1 x.m.1.2.2 x'.m.1.2.2 _ _ b.mem w (h.ems _ g1) h.mem (h'.ems _ g2) h'.mem (hl _ hm) (fun y hy => hr y (List.mem_flatten.2 ⟨_, hm, hy⟩))
  unfold hdV
  rw [(h.len _ g1).1, (h'.len _ g2).1, h.mem.1, h'.mem.1]
  exact k
set_option maxRecDepth 100000 in
set_option maxHeartbeats 8000000 in
theorem sameB_eq (b : Buf) (x x' : BX) (w : World) (h : bufAt w b x) (h' : bufAt w b x') (hl : ∀ l ∈ partsB b, l.length ≤ 9223372036854775807) (hr : ∀ y ∈ entsB b, y.row.length ≤ 9223372036854775807) :
    Calls Try.prog 13 #[bufV b x, bufV b x'] w fun e w' => e = .returned (.bool true) ∧ Below w.heap.size w w' := by
  have KM : Hid (∀ w1, Below w.heap.size w w1 → Calls Try.prog 24 #[hdV x.m.1, hdV x'.m.1] w1 fun e w' => e = .returned (.bool true) ∧ Below w1.heap.size w1 w') := fun w1 hb => mem_same (bufAt_below h hb) (bufAt_below h' hb) hl hr
  have KR : Hid (∀ i w1, i < b.runs.length → Below w.heap.size w w1 → Calls Try.prog 24 #[hdV (x.rs.getD i default).1, hdV (x'.rs.getD i default).1] w1 fun e w' => e = .returned (.bool true) ∧ Below w1.heap.size w1 w') := fun i w1 hi hb => part_same (bufAt_below h hb) (bufAt_below h' hb) hl hr i hi
  have H1 : Hid (hdsAt w x.ra (x.rs.map (·.1))) := h.hds
  have H2 : Hid (hdsAt w x'.ra (x'.rs.map (·.1))) := h'.hds
  have hn1 := h.rlen
  have hn2 := h'.rlen
  have hfew := h.few
  clear h h' hl hr
  obtain ⟨ra, rc, ⟨⟨m1, m2, m3⟩, ml⟩, rs⟩ := x
  obtain ⟨rb, rd, ⟨⟨q1, q2, q3⟩, ql⟩, rt⟩ := x'
  obtain ⟨lim, mem, runs⟩ := b
  unfold bufV hdV
  unfold hdV at KM
  dsimp only at KM KR H1 H2 hn1 hn2 hfew ⊢
  obtain ⟨n, hn⟩ : ∃ n, runs.length = n := ⟨_, rfl⟩
  have HN : Hid (rs.length = n ∧ rt.length = n) := ⟨by rw [hn1, hn], by rw [hn2, hn]⟩
  rw [hn] at KR hn1 hn2
  rw [hn1] at hfew
  rw [hn1, hn2]
  clear hn hn1 hn2
  have hb0 : Below w.heap.size w ((w.alloc (.cells #[.int .i64 lim, .slice m1 m2 m3, .slice ra n rc] 25)).alloc (.cells #[.int .i64 lim, .slice q1 q2 q3, .slice rb n rd] 25)) := by
    repeat (first | exact Below.refl _ _ | (refine Below.alloc ?_ (by simp <;> omega) _))
  have k1 : ((w.alloc (.cells #[.int .i64 lim, .slice m1 m2 m3, .slice ra n rc] 25)).alloc (.cells #[.int .i64 lim, .slice q1 q2 q3, .slice rb n rd] 25)).cell? ⟨w.heap.size, 2, none⟩ = some (.slice ra n rc) := by go_simp
  have k2 : ((w.alloc (.cells #[.int .i64 lim, .slice m1 m2 m3, .slice ra n rc] 25)).alloc (.cells #[.int .i64 lim, .slice q1 q2 q3, .slice rb n rd] 25)).cell? ⟨w.heap.size + 1, 2, none⟩ = some (.slice rb n rd) := by go_simp
  go_enter Try.func13, Try.ntmps13
  go_wp2_with fail
  refine (KM.out _ hb0).mono ?_
  rintro e w1 ⟨rfl, hb1⟩
  have c1 := cell_later hb1 k1
  have c2 := cell_later hb1 k2
  have lw1 : w.heap.size < w1.heap.size := World.block_lt_of_cell? _ _ c1
  have lw2 : w.heap.size + 1 < w1.heap.size := World.block_lt_of_cell? _ _ c2
  have hbw : Below w.heap.size w w1 := hb0.trans (hb1.mono hb0.size)
  clear k1 k2 hb0 hb1
  go_wp2
  go_loopw [5] (fun i wr => ∃ k : Nat, k ≤ n ∧ i = .int .i64 k ∧ Below w1.heap.size w1 wr) (fun i _ => n - (intOf i).toNat)
  case atStart => exact ⟨0, Nat.zero_le _, rfl, Below.refl _ _⟩
  case round =>
    obtain ⟨k, hk, rfl, hnx⟩ := hrel
    have d1 := cell_later hnx c1
    have d2 := cell_later hnx c2
    have hbr := hbw.trans (hnx.mono hbw.size)
    have lr1 : w.heap.size < wr.heap.size := World.block_lt_of_cell? _ _ d1
    have lr2 : w.heap.size + 1 < wr.heap.size := World.block_lt_of_cell? _ _ d2
    by_cases hlt : k < n
    · obtain ⟨b1, o1, e1, x1⟩ := H1.out k (by rw [List.length_map, HN.out.1]; exact hlt)
      obtain ⟨b2, o2, e2, y1⟩ := H2.out k (by rw [List.length_map, HN.out.2]; exact hlt)
      subst e1 e2
      have z1 := cell_later hbr x1
      have u1 := cell_later hbr y1
      have ee1 : (rs.map (·.1)).getD k (none, 0, 0) = (rs.getD k default).1 := by rw [List.getD_eq_getElem?_getD, List.getElem?_map, List.getElem?_eq_getElem (by rw [HN.out.1]; exact hlt), List.getD_eq_getElem?_getD, List.getElem?_eq_getElem (by rw [HN.out.1]; exact hlt)]; rfl
      have ee2 : (rt.map (·.1)).getD k (none, 0, 0) = (rt.getD k default).1 := by rw [List.getD_eq_getElem?_getD, List.getElem?_map, List.getElem?_eq_getElem (by rw [HN.out.2]; exact hlt), List.getD_eq_getElem?_getD, List.getElem?_eq_getElem (by rw [HN.out.2]; exact hlt)]; rfl
      rw [ee1] at z1
      rw [ee2] at u1
      have KK : Hid (∀ w1, Below w.heap.size w w1 → Calls Try.prog 24 #[hdV (rs.getD k default).1, hdV (rt.getD k default).1] w1 fun e w' => e = .returned (.bool true) ∧ Below w1.heap.size w1 w') := fun w1 hb => KR.out k w1 hlt hb
      obtain ⟨⟨⟨s1, s2, s3⟩, sl⟩, hz⟩ : ∃ z, rs.getD k default = z := ⟨_, rfl⟩
      obtain ⟨⟨⟨t1, t2, t3⟩, tl⟩, hz'⟩ : ∃ z, rt.getD k default = z := ⟨_, rfl⟩
      rw [hz] at z1 KK
      rw [hz'] at u1 KK
      unfold hdV at z1 u1 KK
      dsimp only at z1 u1 KK
      have i1 : (0 : Int) ≤ (k : Int) := by omega
      have i2 : (k : Int) < (n : Int) := by omega
      clear hz hz' ee1 ee2 x1 y1
      go_wp2
      go_region_held3 (fun w' => w'.cell? ⟨w.heap.size, 2, none⟩ = some (.slice (some ⟨b1, o1, none⟩) n rc) ∧ w'.cell? ⟨w.heap.size + 1, 2, none⟩ = some (.slice (some ⟨b2, o2, none⟩) n rd) ∧ w'.cell? ⟨b1, o1 + k, none⟩ = some (.slice s1 s2 s3) ∧ w'.cell? ⟨b2, o2 + k, none⟩ = some (.slice t1 t2 t3)) (first | go_keep | exact ⟨cell_later hbq d1, cell_later hbq d2, cell_later hbq z1, cell_later hbq u1⟩)
        (first | (go_at_call 24; refine (KK.out _ hbr.drew).mono ?_; rintro e wq ⟨rfl, hbq0⟩; have hbq : Below wr.heap.size wr wq := (Below.refl _ _).drew.trans hbq0))
      all_goals
        go_wp2
        go_roundw
        case rel => exact ⟨k + 1, by omega, by go_num, hnx.trans (hbq.mono hnx.size)⟩
        case measure => simp [intOf]; omega
    · go_wp2
      go_ret
      exact ⟨rfl, hbr⟩
end Go.Proofs.Ytnfknkihiapgiaa.bf

/- The document's CheckBuffer. -/
namespace Go.Proofs.Ytnfknkihiapgiaa.bf
open Go.ChangeShapes Go.WideShapes Go.ChangeAt Go.RowKit
open vl
set_option linter.unusedVariables false
set_option linter.unusedSimpArgs false
attribute [local go_sem] Oper.semAt_some
/-- how many there are in memory and in the first k runs -/
def sumB (b : Buf) (k : Nat) : Nat := b.mem.length + ((b.runs.take k).flatten).length
/-- is one of the first k runs hollow? -/
def holB (b : Buf) (k : Nat) : Bool := (b.runs.take k).any fun r => decide (r.length = 0)
theorem sumB_zero (b : Buf) : sumB b 0 = b.mem.length := by simp [sumB]
theorem sumB_next {b : Buf} {k : Nat} (h : k < b.runs.length) : sumB b (k + 1) = sumB b k + (b.runs.getD k default).length := by
  unfold sumB
  rw [take_snoc (d := default) h, List.flatten_append, List.length_append]
  simp; omega
theorem sumB_all (b : Buf) : sumB b b.runs.length = (entsB b).length := by
  unfold sumB; rw [List.take_length, ents_eq, List.length_append]
theorem sumB_le {b : Buf} (k : Nat) : sumB b k ≤ (entsB b).length := by
  unfold sumB
  rw [ents_eq, List.length_append]
  have : b.runs.flatten = (b.runs.take k).flatten ++ (b.runs.drop k).flatten := by rw [← List.flatten_append, List.take_append_drop]
  rw [this, List.length_append]; omega
theorem holB_next {b : Buf} {k : Nat} (h : k < b.runs.length) : holB b (k + 1) = (holB b k || decide ((b.runs.getD k default).length = 0)) := by
  unfold holB
  rw [take_snoc (d := default) h, List.any_append]
  simp
theorem holB_yes {b : Buf} {k : Nat} (h : holB b k = true) : ¬ okB b := fun ok => by
  unfold holB at h
  obtain ⟨r, hr, e⟩ := List.any_eq_true.1 h
  have := ok.full r (List.mem_of_mem_take hr)
  have e2 : r.length = 0 := by simpa using e
  omega
theorem holB_no {b : Buf} (h : holB b b.runs.length = false) : ∀ r ∈ b.runs, 0 < r.length := fun r hr => by
  unfold holB at h
  rw [List.take_length] at h
  have := List.any_eq_false.1 h r hr
  simp at this
  rcases Nat.eq_zero_or_pos r.length with e | e
  · exact absurd (List.length_eq_zero_iff.1 e) this
  · exact e
theorem errB_three {b : Buf} (h : betw b.lim 1 64 = false) : 3 = errB b := by unfold errB; rw [if_pos h]
theorem errB_two {b : Buf} (h : betw b.lim 1 64 = true) (h2 : (entsB b).length > 4096 ∨ (b.mem.length : Int) > b.lim) : 2 = errB b := by
  have hc : countB b = false := by
    unfold countB
    rcases h2 with h2 | h2
    · rw [decide_eq_false (by omega : ¬ (entsB b).length ≤ 4096), Bool.and_false]
    · rw [decide_eq_false (by omega : ¬ (b.mem.length : Int) ≤ b.lim), Bool.false_and]
  unfold errB
  rw [h, hc]; rfl
theorem errB_one {b : Buf} (h : betw b.lim 1 64 = true) (h2 : (entsB b).length ≤ 4096) (h3 : (b.mem.length : Int) ≤ b.lim) (hn : ¬ okB b) : 1 = errB b := by
  have hc : countB b = true := by
    unfold countB
    rw [decide_eq_true h2, decide_eq_true h3]; rfl
  have hf : formB b = false := by
    cases e : formB b with
    | false => rfl
    | true => exact absurd (okB_of (by unfold errB; rw [h, hc, e]; rfl)) hn
  unfold errB
  rw [h, hc, hf]; rfl
theorem okB_all {b : Buf} {l : List Ent} {f : Bool} (h1 : betw b.lim 1 64 = true) (h2 : (entsB b).length ≤ 4096) (h3 : (b.mem.length : Int) ≤ b.lim) (h4 : holB b b.runs.length = false) (h5 : upB b.mem = true) (h6 : ∀ j, j < b.runs.length → upB (b.runs.getD j default) = true) (h7 : ES (entsB b) l f) (h8 : f = true ∧ ∀ j, j < l.length → fineB (l.getD j default) = true) : okB b := by
  have hp := h7.perm h8.1
  refine okB_mk ((betw_iff _ _ _).1 h1) h3 h2 (fun y hy => ?_) (fun p hp => ?_) (holB_no h4) (h7.fine.1 h8.1)
  · obtain ⟨j, hj, rfl⟩ := List.getElem_of_mem (hp.mem_iff.2 hy)
    have := h8.2 j hj
    rw [getD_at hj] at this
    exact fineB_iff.1 this
  · rcases List.mem_cons.1 hp with rfl | hp
    · exact upB_iff.1 h5
    · obtain ⟨j, hj, rfl⟩ := List.getElem_of_mem hp
      have := h6 j hj
      rw [getD_at hj] at this
      exact upB_iff.1 this
theorem okB_up {b : Buf} {l : List Ent} (ok : okB b) (h : l ∈ partsB b) (k : upB l = false) : False := by
  rw [upB_iff.2 (ok.rises h)] at k; cases k
theorem okB_ent {b : Buf} {l : List Ent} {f : Bool} {j : Nat} (ok : okB b) (h7 : ES (entsB b) l f) (hj : j < l.length) (k : fineB (l.getD j default) = false) : False := by
  have hf := h7.fine.2 ok.once
  have := ok.entry ((h7.perm hf).mem_iff.1 (mem_getD (d := default) hj))
  rw [fineB_yes this] at k; cases k
theorem ret_int {x y : Int} (h : x = y) : Ending.returned (.int .i64 x) = .returned (.int .i64 y) := by rw [h]
set_option maxRecDepth 100000 in
set_option maxHeartbeats 16000000 in
theorem rcheck_any (b : Buf) (x : BX) (w : World) (h : bufAt w b x) (hw : ∀ y ∈ entsB b, wfE y ∧ y.key.size ≤ 140737488355328 ∧ y.row.length ≤ 2000000) (hs : (entsB b).length ≤ 4611686018427387904) :
    Calls Try.prog 9 #[bufV b x] w fun e w' => e = .returned (.int .i64 (errB b)) ∧ Below w.heap.size w w' := by
  have KE : Hid (∀ w1, (entsB b).length ≤ 4096 → Below w.heap.size w w1 → Calls Try.prog 41 #[bufV b x] w1 fun r w' => (∃ (hh : Hdr) (es : List EM) (l : List Ent) (f : Bool), r = .returned (.tuple #[hdV hh, .bool f]) ∧ OE w' (w1.heap.size + 1) (hdV hh) es l ∧ ES (entsB b) l f) ∧ Below w1.heap.size w1 w') :=
    fun w1 hl hb => entries_any b x w1 (bufAt_below h hb) (by omega) (fun y hy => (hw y hy).2.2)
  have hm1 : x.m ∈ x.m :: x.rs := List.mem_cons_self ..
  have KM : Hid (∀ w1, b.mem.length ≤ 4096 → Below w.heap.size w w1 → Calls Try.prog 40 #[hdV x.m.1] w1 fun r w' => r = .returned (.bool (upB b.mem)) ∧ Below w1.heap.size w1 w') := fun w1 hl hb => by
    have k := rises_any x.m.1.1 x.m.1.2.2 x.m.2 b.mem w1 (emsAt_below (h.ems _ hm1) hb) (h.mem.below hb) (by omega)
    unfold hdV
    rw [(h.len _ hm1).1, h.mem.1]
    exact k
  have KR : Hid (∀ i w1, i < b.runs.length → (b.runs.getD i default).length ≤ 4096 → Below w.heap.size w w1 → Calls Try.prog 40 #[hdV (x.rs.getD i default).1] w1 fun r w' => r = .returned (.bool (upB (b.runs.getD i default))) ∧ Below w1.heap.size w1 w') := fun i w1 hi hl hb => by
    have g1 : x.rs.getD i default ∈ x.m :: x.rs := List.mem_cons_of_mem _ (mem_getD (by rw [h.rlen]; exact hi))
    have e1 := h.runs i hi
    have k := rises_any (x.rs.getD i default).1.1 (x.rs.getD i default).1.2.2 (x.rs.getD i default).2 (b.runs.getD i default) w1 (emsAt_below (h.ems _ g1) hb) (e1.below hb) (by omega)
    unfold hdV
    rw [(h.len _ g1).1, e1.1]
    exact k
  have KF : Hid (∀ e y w1, ER w1 e y → y ∈ entsB b → Calls Try.prog 42 #[e.val] w1 fun r w' => r = .returned (.bool (fineB y)) ∧ Below w1.heap.size w1 w') := fun e y w1 he hy => rfine_any e y w1 he (hw y hy).1 (hw y hy).2.1
  have KW : Hid (∀ w1, Calls Try.prog 39 #[.int .i64 b.lim, .int .i64 1, .int .i64 64] w1 fun e w' => e = .returned (.bool (betw b.lim 1 64)) ∧ w' = w1) := fun w1 => within_any _ _ _ w1
  obtain ⟨R, hR⟩ : ∃ z, errB b = z := ⟨_, rfl⟩
  have H3 : Hid (betw b.lim 1 64 = false → 3 = R) := fun h => by rw [← hR]; exact errB_three h
  have H2 : Hid (betw b.lim 1 64 = true → (entsB b).length > 4096 ∨ (b.mem.length : Int) > b.lim → 2 = R) := fun h k => by rw [← hR]; exact errB_two h k
  have H1 : Hid (betw b.lim 1 64 = true → (entsB b).length ≤ 4096 → (b.mem.length : Int) ≤ b.lim → ¬ okB b → 1 = R) := fun h k1 k2 k3 => by rw [← hR]; exact errB_one h k1 k2 k3
  have H0 : Hid (∀ l f, betw b.lim 1 64 = true → (entsB b).length ≤ 4096 → (b.mem.length : Int) ≤ b.lim → holB b b.runs.length = false → upB b.mem = true → (∀ j, j < b.runs.length → upB (b.runs.getD j default) = true) → ES (entsB b) l f → (f = true ∧ ∀ j, j < l.length → fineB (l.getD j default) = true) → 0 = R) := fun l f h1 h2 h3 h4 h5 h6 h7 h8 => by rw [← hR]; exact (errB_zero (okB_all h1 h2 h3 h4 h5 h6 h7 h8)).symm
  rw [hR]
  have HD : Hid (hdsAt w x.ra (x.rs.map (·.1))) := h.hds
  have hfew := h.few
  have HRN : Hid (∀ k, k < b.runs.length → b.runs.getD k default ∈ partsB b) := fun k hk => List.mem_cons_of_mem _ (mem_getD hk)
  have HLE : Hid (∀ k, k < b.runs.length → (b.runs.getD k default).length ≤ (entsB b).length) := fun k hk => part_le (List.mem_cons_of_mem _ (mem_getD hk))
  have HML : Hid (b.mem.length ≤ (entsB b).length) := part_le (List.mem_cons_self ..)
  have HS0 : Hid (sumB b 0 = b.mem.length) := sumB_zero b
  have HS1 : Hid (∀ k, k < b.runs.length → sumB b (k + 1) = sumB b k + (b.runs.getD k default).length) := fun k hk => sumB_next hk
  have HS2 : Hid (∀ k, sumB b k ≤ (entsB b).length) := fun k => sumB_le k
  have HS3 : Hid (sumB b b.runs.length = (entsB b).length) := sumB_all b
  have HH1 : Hid (∀ k, k < b.runs.length → holB b (k + 1) = (holB b k || decide ((b.runs.getD k default).length = 0))) := fun k hk => holB_next hk
  have HH2 : Hid (∀ k, holB b k = true → ¬ okB b) := fun k hk => holB_yes hk
  have HRL : Hid (∀ i, i < b.runs.length → (x.rs.getD i default).1.2.1 = (b.runs.getD i default).length) := fun i hi => by
    have g1 : x.rs.getD i default ∈ x.m :: x.rs := List.mem_cons_of_mem _ (mem_getD (by rw [h.rlen]; exact hi))
    rw [(h.len _ g1).1, (h.runs i hi).1]
  have HMM : Hid (x.m.1.2.1 = b.mem.length) := by show _ = _; rw [(h.len _ hm1).1, h.mem.1]
  have hrl := h.rlen
  have HBV : Hid (holB b 0 = false) := by show _ = _; simp [holB]
  clear hR h hw hm1
  obtain ⟨ra, rc, ⟨⟨m1, m2, m3⟩, ml⟩, rs⟩ := x
  obtain ⟨lim, hlim⟩ : ∃ z, b.lim = z := ⟨_, rfl⟩
  obtain ⟨RN, hRN⟩ : ∃ z : Nat → List Ent, (fun k => b.runs.getD k default) = z := ⟨_, rfl⟩
  have hRN' : ∀ k, b.runs.getD k default = RN k := fun k => congrFun hRN k
  obtain ⟨n, hn⟩ : ∃ z, b.runs.length = z := ⟨_, rfl⟩
  obtain ⟨T, hT⟩ : ∃ z, (entsB b).length = z := ⟨_, rfl⟩
  have HEL : Hid (∀ k, k ≤ (entsB b).length → k ≤ T) := fun k hk => by rw [← hT]; exact hk
  have hms : b.mem.length = m2 := HMM.out.symm
  unfold bufV hdV at KE ⊢
  unfold hdV at KM
  simp only [hRN', hn, hlim, hT, hms] at KE KM KR KW H3 H2 H1 H0 HRN HLE HML HS0 HS1 HS2 HS3 HH1 HRL hs hrl hfew ⊢
  have HN : Hid (rs.length = n ∧ True) := ⟨hrl, trivial⟩
  rw [hrl] at KE hfew ⊢
  clear hlim hRN hRN' hn hms hrl HMM
  have hb0 : Below w.heap.size w (w.alloc (.cells #[.int .i64 lim, .slice m1 m2 m3, .slice ra n rc] 25)) := (Below.refl _ _).alloc (Nat.le_refl _) _
  have k0 : (w.alloc (.cells #[.int .i64 lim, .slice m1 m2 m3, .slice ra n rc] 25)).cell? ⟨w.heap.size, 0, none⟩ = some (.int .i64 lim) := by go_simp
  have k1 : (w.alloc (.cells #[.int .i64 lim, .slice m1 m2 m3, .slice ra n rc] 25)).cell? ⟨w.heap.size, 1, none⟩ = some (.slice m1 m2 m3) := by go_simp
  have k2 : (w.alloc (.cells #[.int .i64 lim, .slice m1 m2 m3, .slice ra n rc] 25)).cell? ⟨w.heap.size, 2, none⟩ = some (.slice ra n rc) := by go_simp
  have hmT : m2 ≤ T := HML.out
  obtain ⟨BT, hBT⟩ : ∃ z, betw lim 1 64 = z := ⟨_, rfl⟩
  rw [hBT] at KW H3 H2 H1 H0
  clear hBT
  cases BT with
  | false =>
    have HE : Hid (3 = R) := H3.out rfl
    go_enter Try.func9, Try.ntmps9
    go_wp2_with (go_at_call 39; refine (KW.out _).mono ?_; rintro e w' ⟨rfl, hww⟩; subst hww)
    go_ret
    exact ⟨ret_int HE.out, hb0⟩
  | true =>
    have hbt : true = true := rfl
    go_enter Try.func9, Try.ntmps9
    go_wp2_with (go_at_call 39; refine (KW.out _).mono ?_; rintro e w' ⟨rfl, hww⟩; subst hww)
    generalize w.alloc (.cells #[.int .i64 lim, .slice m1 m2 m3, .slice ra n rc] 25) = W0 at *
    go_loopw [3, 4, 5] (fun sn ho ii wr => ∃ k : Nat, k ≤ n ∧ ii = .int .i64 k ∧ sn = .int .i64 (sumB b k) ∧ ho = .bool (holB b k) ∧ wr = W0) (fun _ _ ii _ => n - (intOf ii).toNat)
    case atStart => exact ⟨0, Nat.zero_le _, rfl, by rw [HS0.out], by rw [HBV.out], rfl⟩
    case round =>
      obtain ⟨k, hk, rfl, rfl, rfl, rfl⟩ := hrel
      have lw : w.heap.size < wr.heap.size := World.block_lt_of_cell? _ _ k0
      obtain ⟨p, hp⟩ : ∃ z, sumB b k = z := ⟨_, rfl⟩
      have HP : Hid (sumB b k = p) := hp
      have hpT : p ≤ T := by rw [← hp]; exact HS2.out k
      obtain ⟨ho, hho⟩ : ∃ z, holB b k = z := ⟨_, rfl⟩
      have HO : Hid (holB b k = ho) := hho
      rw [hp, hho]
      clear hp hho
      by_cases hkn : k < n
      · obtain ⟨b4, o4, e4, x4⟩ := HD.out k (by rw [List.length_map, HN.out.1]; exact hkn)
        subst e4
        have z0 := cell_later hb0 x4
        have ee1 : (rs.map (·.1)).getD k (none, 0, 0) = (rs.getD k default).1 := by rw [List.getD_eq_getElem?_getD, List.getElem?_map, List.getElem?_eq_getElem (by rw [HN.out.1]; exact hkn), List.getD_eq_getElem?_getD, List.getElem?_eq_getElem (by rw [HN.out.1]; exact hkn)]; rfl
        rw [ee1] at z0
        have hln := HRL.out k hkn
        have hs1 := HS1.out k hkn
        have hh1 := HH1.out k hkn
        have hs2 := HS2.out (k + 1)
        rw [HP.out] at hs1
        rw [HO.out] at hh1
        obtain ⟨⟨⟨s1, s2, s3⟩, sl⟩, hz⟩ : ∃ z, rs.getD k default = z := ⟨_, rfl⟩
        rw [hz] at z0 hln
        unfold hdV at z0
        dsimp only at z0 hln
        rw [← hln] at hs1 hh1
        obtain ⟨zb, hzb⟩ : ∃ z, decide (s2 = 0) = z := ⟨_, rfl⟩
        rw [hzb] at hh1
        have hzq : ((s2 : Int) == 0) = zb := by rw [← hzb]; by_cases e : s2 = 0 <;> simp [e]
        have HS4 : Hid (sumB b (k + 1) = p + s2) := hs1
        have HH4 : Hid (holB b (k + 1) = (ho || zb)) := hh1
        rw [hs1] at hs2
        have hwp : IntKind.i64.wrap ((p : Int) + (s2 : Int)) = (p : Int) + (s2 : Int) := by rw [wrap_is]; omega
        have i1 : (0 : Int) ≤ (k : Int) := by omega
        have i2 : (k : Int) < (n : Int) := by omega
        clear hz hln ee1 x4 hs1 hh1 hzb
        by_cases hbig : (p : Int) + (s2 : Int) > 4096
        · have HE : Hid (2 = R) := H2.out hbt (.inl (by omega))
          cases ho
          all_goals
            go_wp2
            go_ret
            exact ⟨ret_int HE.out, hb0⟩
        · have hbig' : ¬ 4096 < (p : Int) + (s2 : Int) := by omega
          cases ho with
          | false =>
            go_wp2
            go_roundw
            case rel => exact ⟨k + 1, by omega, by go_num, by rw [HS4.out]; go_num, by rw [HH4.out]; rfl, by trivial⟩
            case measure => simp [intOf] <;> omega
          | true =>
            go_wp2
            go_roundw
            case rel => exact ⟨k + 1, by omega, by go_num, by rw [HS4.out]; go_num, by rw [HH4.out]; rfl, by trivial⟩
            case measure => simp [intOf] <;> omega
      · have hke : n = k := by omega
        subst hke
        have hpe : p = T := by rw [← HP.out]; exact HS3.out
        subst hpe
        by_cases hbig : (p : Int) > 4096
        · have HE : Hid (2 = R) := H2.out hbt (.inl (by omega))
          go_wp2
          go_ret
          exact ⟨ret_int HE.out, hb0⟩
        · have ht : p ≤ 4096 := by omega
          by_cases hml : (m2 : Int) > lim
          · have HE : Hid (2 = R) := H2.out hbt (.inr hml)
            go_wp2
            go_ret
            exact ⟨ret_int HE.out, hb0⟩
          · have hm : (m2 : Int) ≤ lim := by omega
            cases ho with
            | true =>
              have HE : Hid (1 = R) := H1.out hbt ht hm (HH2.out _ HO.out)
              go_wp2
              go_ret
              exact ⟨ret_int HE.out, hb0⟩
            | false =>
              have HHOL : Hid (holB b n = false) := HO.out
              have KX := KM.out wr (by omega) hb0
              obtain ⟨UM, hUM⟩ : ∃ z, upB b.mem = z := ⟨_, rfl⟩
              have HUM : Hid (upB b.mem = UM) := hUM
              rw [hUM] at KX
              clear hUM
              cases UM with
              | false =>
                have HE : Hid (1 = R) := H1.out hbt ht hm (fun ok => okB_up ok (List.mem_cons_self ..) HUM.out)
                go_wp2_with (go_at_call 40; refine KX.mono ?_; rintro e6 w6 ⟨rfl, hb6⟩)
                go_ret
                exact ⟨ret_int HE.out, hb0.trans (hb6.mono hb0.size)⟩
              | true =>
                go_wp2_with (go_at_call 40; refine KX.mono ?_; rintro e6 w2 ⟨rfl, hb6⟩; have hb2 : Below w.heap.size w w2 := hb0.trans (hb6.mono hb0.size); have c0 := cell_later hb6 k0; have c1 := cell_later hb6 k1; have c2 := cell_later hb6 k2; have lwz : w.heap.size < w2.heap.size := World.block_lt_of_cell? _ _ c0)
                go_loopw [6] (fun ii wr => ∃ k : Nat, k ≤ n ∧ ii = .int .i64 k ∧ Below w2.heap.size w2 wr ∧ ∀ j, j < k → upB (RN j) = true) (fun ii _ => n - (intOf ii).toNat)
                case atStart => exact ⟨0, Nat.zero_le _, rfl, Below.refl _ _, fun j hj => absurd hj (Nat.not_lt_zero j)⟩
                case round =>
                  obtain ⟨k, hk, rfl, hny, hur⟩ := hrel
                  have HUK : Hid (∀ j, j < k → upB (RN j) = true) := hur
                  have hby : Below w.heap.size w wr := hb2.trans (hny.mono hb2.size)
                  have d0 := cell_later hny c0
                  have d1 := cell_later hny c1
                  have d2 := cell_later hny c2
                  have lw2 : w.heap.size < wr.heap.size := World.block_lt_of_cell? _ _ d0
                  clear hur
                  by_cases hkn : k < n
                  · obtain ⟨b4, o4, e4, x4⟩ := HD.out k (by rw [List.length_map, HN.out.1]; exact hkn)
                    subst e4
                    have z0 := cell_later hby x4
                    have ee1 : (rs.map (·.1)).getD k (none, 0, 0) = (rs.getD k default).1 := by rw [List.getD_eq_getElem?_getD, List.getElem?_map, List.getElem?_eq_getElem (by rw [HN.out.1]; exact hkn), List.getD_eq_getElem?_getD, List.getElem?_eq_getElem (by rw [HN.out.1]; exact hkn)]; rfl
                    rw [ee1] at z0
                    have KX : Hid (Calls Try.prog 40 #[hdV (rs.getD k default).1] wr fun r w' => r = .returned (.bool (upB (RN k))) ∧ Below wr.heap.size wr w') := KR.out k wr hkn (Nat.le_trans (HLE.out k hkn) (by omega)) hby
                    obtain ⟨UB, hUB⟩ : ∃ z, upB (RN k) = z := ⟨_, rfl⟩
                    have HUB : Hid (upB (RN k) = UB) := hUB
                    rw [hUB] at KX
                    obtain ⟨⟨⟨s1, s2, s3⟩, sl⟩, hz⟩ : ∃ z, rs.getD k default = z := ⟨_, rfl⟩
                    rw [hz] at z0 KX
                    unfold hdV at z0 KX
                    dsimp only at z0 KX
                    have i1 : (0 : Int) ≤ (k : Int) := by omega
                    have i2 : (k : Int) < (n : Int) := by omega
                    clear hz hUB ee1 x4
                    cases UB with
                    | false =>
                      have HE : Hid (1 = R) := H1.out hbt ht hm (fun ok => okB_up ok (HRN.out k hkn) HUB.out)
                      go_wp2_with (go_at_call 40; refine KX.out.mono ?_; rintro e6 w6 ⟨rfl, hb6⟩)
                      go_ret
                      exact ⟨ret_int HE.out, hby.trans (hb6.mono hby.size)⟩
                    | true =>
                      go_wp2_with (go_at_call 40; refine KX.out.mono ?_; rintro e6 w6 ⟨rfl, hb6⟩)
                      go_roundw
                      case rel => exact ⟨k + 1, by omega, by go_num, hny.trans (hb6.mono hny.size), fun j hj => by
                        rcases Nat.lt_succ_iff_lt_or_eq.1 hj with h1 | h1
                        · exact HUK.out j h1
                        · rw [h1]; exact HUB.out⟩
                      case measure => simp [intOf] <;> omega
                  · have hke : k = n := by omega
                    subst hke
                    have HUR : Hid (∀ j, j < k → upB (RN j) = true) := HUK.out
                    have KX := KE.out wr (by omega) hby
                    go_wp2_with (go_at_call 41; refine KX.mono ?_; rintro e6 w3 ⟨⟨⟨q1, q2, q3⟩, es, l, f, rfl, hoe, hes⟩, hb3'⟩; have hb3 : Below w.heap.size w w3 := hby.trans (hb3'.mono hby.size); have HES3 : Hid (ES (entsB b) l f ∧ es.length = l.length) := ⟨hes, hoe.len⟩; have HER3 : Hid (ERs w3 es l) := hoe.ers; (try dsimp only); dsimp only at hoe; have hq2 : q2 = es.length := (by obtain ⟨ad, cp, e⟩ := hoe.form; cases e; rfl); subst hq2; have HAT3 : Hid (emsAt w3 q1 es) := hoe.at; obtain ⟨en, hen⟩ : ∃ z, es.length = z := ⟨_, rfl⟩; have HEN : Hid (es.length = en) := hen; rw [hen]; have hen2 : en ≤ 4096 := (by rw [← hen, hoe.len]; exact Nat.le_trans (HEL.out _ hes.len) ht); clear hoe hes hb3' hen)
                    go_loopw [8, 9] (fun fi ii wr => ∃ (k : Nat) (g : Bool), k ≤ en ∧ ii = .int .i64 k ∧ fi = .bool g ∧ Below w3.heap.size w3 wr ∧ (g = true ↔ f = true ∧ ∀ j, j < k → fineB (l.getD j default) = true)) (fun _ ii _ => en - (intOf ii).toNat)
                    case atStart => exact ⟨0, f, Nat.zero_le _, rfl, rfl, Below.refl _ _, by simp⟩
                    case round =>
                      obtain ⟨k, g, hk, rfl, rfl, hnz, hg⟩ := hrel
                      have HG : Hid (g = true ↔ f = true ∧ ∀ j, j < k → fineB (l.getD j default) = true) := hg
                      have hbz : Below w.heap.size w wr := hb3.trans (hnz.mono hb3.size)
                      clear hg
                      by_cases hke : k < en
                      · have hkl : k < l.length := by rw [← HES3.out.2, HEN.out]; exact hke
                        have i1 : (0 : Int) ≤ (k : Int) := by omega
                        have i2 : (k : Int) < (en : Int) := by omega
                        cases g with
                        | false =>
                          go_wp2
                          go_roundw
                          case rel => exact ⟨k + 1, false, by omega, by go_num, rfl, hnz, by
                            constructor
                            · intro h; cases h
                            · rintro ⟨h1, h2⟩; exact HG.out.2 ⟨h1, fun j hj => h2 j (by omega)⟩⟩
                          case measure => simp [intOf] <;> omega
                        | true =>
                          have HFT : Hid (f = true) := (HG.out.1 rfl).1
                          have hmem : l.getD k default ∈ entsB b := (HES3.out.1.perm HFT.out).mem_iff.1 (mem_getD hkl)
                          obtain ⟨b1, o1, ee, x1, x2, x3, x4, x5⟩ := HAT3.out k (by rw [HEN.out]; exact hke)
                          subst ee
                          have z1 := cell_later hnz x1
                          have z2 := cell_later hnz x2
                          have z3 := cell_later hnz x3
                          have z4 := cell_later hnz x4
                          have z5 := cell_later hnz x5
                          have KX : Hid (Calls Try.prog 42 #[(es.getD k default).val] wr fun r w' => r = .returned (.bool (fineB (l.getD k default))) ∧ Below wr.heap.size wr w') := KF.out _ _ wr ((HER3.out.2 k hkl).below hnz) hmem
                          obtain ⟨FB, hFB⟩ : ∃ z, fineB (l.getD k default) = z := ⟨_, rfl⟩
                          have HFB : Hid (fineB (l.getD k default) = FB) := hFB
                          rw [hFB] at KX
                          obtain ⟨⟨fk, ft, fs, ⟨f1, f3, f4⟩, fm⟩, hz⟩ : ∃ z, es.getD k default = z := ⟨_, rfl⟩
                          rw [hz] at z1 z2 z3 z4 z5 KX
                          unfold EM.val at KX
                          unfold hdV at z4
                          dsimp only at z1 z2 z3 z4 z5 KX
                          rw [show hdV (f1, f3, f4) = .slice f1 f3 f4 from rfl] at KX
                          clear hz hFB x1 x2 x3 x4 x5 hmem
                          go_wp2_with (go_at_call 42; refine KX.out.mono ?_; rintro e6 w6 ⟨rfl, hb6⟩)
                          have HG6 : Hid (FB = true ↔ f = true ∧ ∀ j, j < k + 1 → fineB (l.getD j default) = true) := by
                            constructor
                            · intro h
                              refine ⟨HFT.out, fun j hj => ?_⟩
                              rcases Nat.lt_succ_iff_lt_or_eq.1 hj with h1 | h1
                              · exact (HG.out.1 (by trivial)).2 j h1
                              · rw [h1, HFB.out]; exact h
                            · rintro ⟨_, h2⟩
                              rw [← HFB.out]; exact h2 k (by omega)
                          go_roundw
                          case rel => exact ⟨k + 1, FB, by omega, by go_num, rfl, hnz.trans (hb6.mono hnz.size), HG6.out⟩
                          case measure => simp [intOf] <;> omega
                      · have hkn : k = en := by omega
                        subst hkn
                        cases g with
                        | false =>
                          have HE : Hid (1 = R) := H1.out hbt ht hm (fun ok => by
                            have h9 := HES3.out.1.fine.2 ok.once
                            have : false = true := HG.out.2 ⟨h9, fun j hj => by
                              cases e : fineB (l.getD j default) with
                              | true => rfl
                              | false => exact (okB_ent ok HES3.out.1 (by rw [← HES3.out.2, HEN.out]; exact hj) e).elim⟩
                            cases this)
                          go_wp2
                          go_ret
                          exact ⟨ret_int HE.out, hbz⟩
                        | true =>
                          have HE : Hid (0 = R) := H0.out l f hbt ht hm HHOL.out HUM.out HUR.out HES3.out.1 ⟨(HG.out.1 rfl).1, fun j hj => (HG.out.1 rfl).2 j (by rw [← HEN.out, HES3.out.2]; exact hj)⟩
                          go_wp2
                          go_ret
                          exact ⟨ret_int HE.out, hbz⟩
end Go.Proofs.Ytnfknkihiapgiaa.bf

/- The document's OwnBuffer. -/
namespace Go.Proofs.Ytnfknkihiapgiaa.bf
open Go.ChangeShapes Go.WideShapes Go.ChangeAt Go.RowKit
open vl
set_option linter.unusedVariables false
set_option linter.unusedSimpArgs false
attribute [local go_sem] Oper.semAt_some
/-- what is there ahead of the k-th part -/
def stB (P : Ent → Bool) (lim : Int) (mem : List Ent) (runs : List (List Ent)) (k : Nat) : Buf := ⟨lim, if k = 0 then [] else mem.filter P, keptR P (runs.take (k - 1))⟩
def zeroX3 : BX := ⟨none, 0, ((none, 0, 0), []), []⟩
theorem startC {W W1 : World} {C NB base : Nat} {lim : Int} {hh : Hdr} {es : List EM} {l : List Ent} (h : KSt W C NB base zeroX3 ⟨lim, [], []⟩) (hf : W.frozen? ⟨NB, 1, none⟩ = false) (hb : Below W.heap.size W W1) (ho : OE W1 W.heap.size (hdV hh) es l) :
    KSt (W1.setCell ⟨NB, 1, none⟩ (hdV hh)) C NB base ⟨none, 0, (hh, es), []⟩ ⟨lim, l, []⟩ ∧ Below base W (W1.setCell ⟨NB, 1, none⟩ (hdV hh)) := by
  have h1 := h.below hb
  have hlow := h.ob.low
  have hne := h.ne
  have hup := h.up
  obtain ⟨ob, c0, c1, c2, f2, ty, r0, r1, r2, g0, g1, g2, rt, ne, up⟩ := h1
  have eC : (W1.setCell ⟨NB, 1, none⟩ (hdV hh)).heap[C]? = W1.heap[C]? := heap_setCell_other _ _ _ _ (by dsimp only; omega)
  refine ⟨⟨OB_first (OE_set (ho.mono hlow) ty _ _), ?_, ?_, ?_, ?_, tyAt_set ty _ _, ?_, ?_, ?_, ?_, ?_, ?_, tyAt_of rt eC, ne, up⟩, (hb.mono hlow).setCell (by dsimp only; omega) _⟩
  · go_simp
  · exact World.cell?_setCell_same _ _ _ c1
  · unfold zeroX3 at c2
    dsimp only at c2 ⊢
    go_simp
  · go_simp
  · exact (World.cell?_of_block (a := ⟨C, 0, none⟩) eC).trans r0
  · exact (World.cell?_of_block (a := ⟨C, 1, none⟩) eC).trans r1
  · exact (World.cell?_of_block (a := ⟨C, 2, none⟩) eC).trans r2
  · exact (froz_of (p := ⟨C, 0, none⟩) eC).trans g0
  · exact (froz_of (p := ⟨C, 1, none⟩) eC).trans g1
  · exact (froz_of (p := ⟨C, 2, none⟩) eC).trans g2
theorem five_new {W : World} {m : Nat} (hm : W.heap.size = m) (k : ByteArray) (a b : Int) (r : Hdr) (f : Bool) : ∀ j u, [Value.string k, .int .i64 a, .int .i64 b, .slice r.1 r.2.1 r.2.2, .bool f][j]? = some u → (W.alloc (.cells #[.string k, .int .i64 a, .int .i64 b, .slice r.1 r.2.1 r.2.2, .bool f] 28)).cell? ((⟨m, 0, none⟩ : Addr).add j) = some u := by
  subst hm
  exact cell_five_new _ _ _ _ _ _ _
theorem copy_kept {A w2 : World} {B m rl c3 : Nat} {ad2 : Option Addr} {r : List Cel} {u : Value} (h : ownV w2 A.heap.size (.slice ad2 rl c3) r) (hm : m ≤ B) (hB : B < A.heap.size) : ownV (w2.setCell ⟨B, 3, none⟩ u) m (.slice ad2 rl c3) r :=
  own_mono (own_same h (fun g hg => heap_setCell_other _ _ _ _ (by have := (own_lt h hg).1; dsimp only; omega))) (by omega)
set_option maxRecDepth 100000 in
set_option maxHeartbeats 16000000 in
theorem own_any (fn : FuncId) (eg : ∀ args w, (callFunc fn args).run Try.prog w = .ok (.enter fn args) w) (caps : Array Value) (P : Ent → Bool) (b : Buf) (x : BX) (w : World) (h : bufAt w b x) (hl : ∀ l ∈ partsB b, l.length ≤ 100000) (hr : b.runs.length ≤ 100000) (hrow : ∀ y ∈ entsB b, y.row.length ≤ 2000000)
    (H : ∀ e y w1, ER w1 e y → y ∈ entsB b → Below w.heap.size w w1 → Calls Try.prog fn (#[e.val] ++ caps) w1 fun r w' => r = .returned (.bool (P y)) ∧ Below w1.heap.size w1 w') :
    Calls Try.prog 43 #[bufV b x, .func (.func fn) #[] caps] w fun e w' => (∃ x', e = .returned (bufV (keptB P b) x') ∧ OB w' w.heap.size x' (keptB P b)) ∧ Below w.heap.size w w' := by
  obtain ⟨i0, hi0, hz0, hz1, hz2⟩ := info_parts infoH
  have HI : Hid (Try.prog.info? 22 = some i0 ∧ i0.zero = some (.slice none 0 0) ∧ i0.size = 1 ∧ i0.bytes = 24) := ⟨hi0, hz0, hz1, hz2⟩
  clear hi0 hz0 hz1 hz2
  obtain ⟨iE, hi0, hz0, hz1, hz2⟩ := info_parts infoE
  have HJ : Hid (Try.prog.info? 28 = some iE ∧ iE.zero = some (.agg #[.string ⟨#[]⟩, .int .i64 0, .int .i64 0, .slice none 0 0, .bool false]) ∧ iE.size = 5 ∧ iE.bytes = 64) := ⟨hi0, hz0, hz1, hz2⟩
  clear hi0 hz0 hz1 hz2
  have HP : Hid (∀ k, k < (partsB b).length → ((x.m :: x.rs).getD k default).1.2.1 = ((partsB b).getD k default).length ∧ emsAt w ((x.m :: x.rs).getD k default).1.1 ((x.m :: x.rs).getD k default).2 ∧ ERs w ((x.m :: x.rs).getD k default).2 ((partsB b).getD k default)) := fun k hk => parts_getD h hk
  have HROW : Hid (∀ k j, k < (partsB b).length → j < ((partsB b).getD k default).length → (((partsB b).getD k default).getD j default).row.length ≤ 2000000) := fun k j hk hj => hrow _ (part_mem hk hj)
  have HLL : Hid (∀ k, k < (partsB b).length → ((partsB b).getD k default).length ≤ 100000) := fun k hk => hl _ (mem_getD hk)
  have HW : Hid (∀ k j e w1, k < (partsB b).length → j < ((partsB b).getD k default).length → ER w1 e (((partsB b).getD k default).getD j default) → Below w.heap.size w w1 → Calls Try.prog fn (#[e.val] ++ caps) w1 fun r w' => r = .returned (.bool (P (((partsB b).getD k default).getD j default))) ∧ Below w1.heap.size w1 w') := fun k j e w1 hk hj he hb => H e _ w1 he (part_mem hk hj) hb
  have HD : Hid (hdsAt w x.ra (x.rs.map (·.1))) := h.hds
  have HPN : Hid ((partsB b).length = x.rs.length + 1) := by show _ = _; simp [partsB, h.rlen]
  have hrl := h.rlen
  have HPM : Hid ((partsB b).getD 0 default = b.mem ∧ ∀ k, (partsB b).getD (k + 1) default = b.runs.getD k default) := ⟨rfl, fun k => by simp [partsB]⟩
  clear h hl hrow H
  obtain ⟨PB, hPB⟩ : ∃ z, partsB b = z := ⟨_, rfl⟩
  rw [hPB] at HP HROW HLL HW HPN HPM
  clear hPB
  obtain ⟨ra, rc, ⟨⟨m1, m2, m3⟩, ml⟩, rs⟩ := x
  obtain ⟨lim, mem, runs⟩ := b
  unfold bufV hdV
  dsimp only at HP HD HPN HPM hr hrl ⊢
  obtain ⟨n, hn⟩ : ∃ n, rs.length = n := ⟨_, rfl⟩
  have HN : Hid (rs.length = n ∧ runs.length = n) := ⟨hn, by rw [← hrl, hn]⟩
  rw [hn] at HPN
  rw [hn]
  have hn9 : n ≤ 100000 := by omega
  clear hn hrl hr
  have k0 : (((w.alloc (.cells #[.int .i64 lim, .slice m1 m2 m3, .slice ra n rc] 25)).alloc (.cells #[.int .i64 0, .slice none 0 0, .slice none 0 0] 25)).alloc (.cells #[.int .i64 lim, .slice none 0 0, .slice none 0 0] 25)).cell? ⟨w.heap.size, 0, none⟩ = some (.int .i64 lim) := by go_simp
  have k1 : (((w.alloc (.cells #[.int .i64 lim, .slice m1 m2 m3, .slice ra n rc] 25)).alloc (.cells #[.int .i64 0, .slice none 0 0, .slice none 0 0] 25)).alloc (.cells #[.int .i64 lim, .slice none 0 0, .slice none 0 0] 25)).cell? ⟨w.heap.size, 1, none⟩ = some (.slice m1 m2 m3) := by go_simp
  have k2 : (((w.alloc (.cells #[.int .i64 lim, .slice m1 m2 m3, .slice ra n rc] 25)).alloc (.cells #[.int .i64 0, .slice none 0 0, .slice none 0 0] 25)).alloc (.cells #[.int .i64 lim, .slice none 0 0, .slice none 0 0] 25)).cell? ⟨w.heap.size, 2, none⟩ = some (.slice ra n rc) := by go_simp
  have kf : (((w.alloc (.cells #[.int .i64 lim, .slice m1 m2 m3, .slice ra n rc] 25)).alloc (.cells #[.int .i64 0, .slice none 0 0, .slice none 0 0] 25)).alloc (.cells #[.int .i64 lim, .slice none 0 0, .slice none 0 0] 25)).frozen? ⟨w.heap.size + 1 + 1, 1, none⟩ = false := by go_simp
  have hb0 : Below w.heap.size w (((w.alloc (.cells #[.int .i64 lim, .slice m1 m2 m3, .slice ra n rc] 25)).alloc (.cells #[.int .i64 0, .slice none 0 0, .slice none 0 0] 25)).alloc (.cells #[.int .i64 lim, .slice none 0 0, .slice none 0 0] 25)) := by
    repeat (first | exact Below.refl _ _ | (refine Below.alloc ?_ (by simp <;> omega) _))
  have hVs : (((w.alloc (.cells #[.int .i64 lim, .slice m1 m2 m3, .slice ra n rc] 25)).alloc (.cells #[.int .i64 0, .slice none 0 0, .slice none 0 0] 25)).alloc (.cells #[.int .i64 lim, .slice none 0 0, .slice none 0 0] 25)).heap.size = w.heap.size + 1 + 1 + 1 := by simp
  have HK0 : Hid (KSt (((w.alloc (.cells #[.int .i64 lim, .slice m1 m2 m3, .slice ra n rc] 25)).alloc (.cells #[.int .i64 0, .slice none 0 0, .slice none 0 0] 25)).alloc (.cells #[.int .i64 lim, .slice none 0 0, .slice none 0 0] 25)) (w.heap.size + 1) (w.heap.size + 1 + 1) (w.heap.size + 1) zeroX3 ⟨lim, [], []⟩) := by
    have nb := nb_alloc (w.alloc (.cells #[.int .i64 lim, .slice m1 m2 m3, .slice ra n rc] 25))
    rw [World.size_alloc] at nb
    have k := startA (base := w.heap.size + 1) (base' := w.heap.size + 1) (hh := (none, 0, 0)) (es := []) (l := []) (lim := lim) nb (OE_nil (by simp)) (Nat.le_refl _) (Nat.le_refl _)
    rw [World.size_alloc, World.size_alloc] at k
    exact k
  go_enter Try.func43, Try.ntmps43
  go_wp2
  generalize ((w.alloc (.cells #[.int .i64 lim, .slice m1 m2 m3, .slice ra n rc] 25)).alloc (.cells #[.int .i64 0, .slice none 0 0, .slice none 0 0] 25)).alloc (.cells #[.int .i64 lim, .slice none 0 0, .slice none 0 0] 25) = V at *
  go_loopw [6, 7, 8, 9, 10] (fun ii _ _ _ _ wr => ∃ (k : Nat) (x' : BX), k ≤ n + 1 ∧ ii = .int .i64 ((k : Int) - 1) ∧ KSt wr (w.heap.size + 1) (w.heap.size + 1 + 1) (w.heap.size + 1) x' (stB P lim mem runs k) ∧ (k = 0 → x' = zeroX3 ∧ wr.frozen? ⟨w.heap.size + 1 + 1, 1, none⟩ = false) ∧ Below (w.heap.size + 1) V wr) (fun ii _ _ _ _ _ => n + 1 - (intOf ii + 1).toNat)
  case atStart => exact ⟨0, zeroX3, Nat.zero_le _, rfl, HK0.out, fun _ => ⟨rfl, kf⟩, Below.refl _ _⟩
  case round =>
    obtain ⟨k, x', hk, rfl, hst, hz0, hnx⟩ := hrel
    have HST : Hid (KSt wr (w.heap.size + 1) (w.heap.size + 1 + 1) (w.heap.size + 1) x' (stB P lim mem runs k)) := hst
    have HZ0 : Hid (k = 0 → x' = zeroX3 ∧ wr.frozen? ⟨w.heap.size + 1 + 1, 1, none⟩ = false) := hz0
    have hbo : Below w.heap.size w wr := hb0.trans (hnx.mono (by omega))
    have c0 := (hnx.cell (p := ⟨w.heap.size, 0, none⟩) (by dsimp only; omega)).trans k0
    have c1 := (hnx.cell (p := ⟨w.heap.size, 1, none⟩) (by dsimp only; omega)).trans k1
    have c2 := (hnx.cell (p := ⟨w.heap.size, 2, none⟩) (by dsimp only; omega)).trans k2
    have lw : w.heap.size < wr.heap.size := World.block_lt_of_cell? _ _ c0
    clear hst hz0
    by_cases hlt : k < n + 1
    · have hkp : k < PB.length := by rw [HPN.out]; exact hlt
      cases k with
      | zero =>
        have HPK := HP.out 0 hkp
        have HLK := HLL.out 0 hkp
        have HROK : Hid (∀ j, j < (PB.getD 0 default).length → ((PB.getD 0 default).getD j default).row.length ≤ 2000000) := fun j hj => HROW.out 0 j hkp hj
        have HWK : Hid (∀ j e w1, j < (PB.getD 0 default).length → ER w1 e ((PB.getD 0 default).getD j default) → Below w.heap.size w w1 → Calls Try.prog fn (#[e.val] ++ caps) w1 fun r w' => r = .returned (.bool (P ((PB.getD 0 default).getD j default))) ∧ Below w1.heap.size w1 w') := fun j e w1 hj he hb => HW.out 0 j e w1 hkp hj he hb
        obtain ⟨PT, hPT⟩ : ∃ z, PB.getD 0 default = z := ⟨_, rfl⟩
        have HPT : Hid (PT = mem) := by show PT = mem; rw [← hPT]; exact HPM.out.1
        rw [hPT] at HPK HLK HROK HWK
        obtain ⟨pl, hpl⟩ : ∃ z, PT.length = z := ⟨_, rfl⟩
        have HPL : Hid (PT.length = pl) := hpl
        have hm2 : pl = m2 := by rw [← hpl, ← HPK.1]; rfl
        have HEM : Hid (emsAt w m1 ml) := HPK.2.1
        have HER : Hid (ERs w ml PT) := HPK.2.2
        obtain ⟨pt, hpt⟩ : ∃ z, ml = z := ⟨_, rfl⟩
        rw [hpt] at HEM HER
        rw [hpl] at HLK
        subst hm2
        clear HPK hpl hpt hPT
        go_wp2
        generalize wr = WO at *
        go_loopw [8, 9, 10] (fun o jj _ wq => ∃ (j : Nat) (hh : Hdr) (es : List EM), o = hdV hh ∧ jj = .int .i64 j ∧ j ≤ pl ∧ OE wq WO.heap.size (hdV hh) es ((PT.take j).filter P) ∧ Below WO.heap.size WO wq) (fun _ jj _ _ => pl - (intOf jj).toNat)
        case atStart => exact ⟨0, (none, 0, 0), [], rfl, rfl, Nat.zero_le _, OE_nil (Nat.le_refl _), Below.refl _ _⟩
        case round =>
          obtain ⟨j, ⟨p1, p2, p3⟩, es', rfl, rfl, hj, hoe, hny⟩ := hrel
          have HOE : Hid (OE wr WO.heap.size (hdV (p1, p2, p3)) es' ((PT.take j).filter P)) := hoe
          have hp2 : es'.length = p2 := by
            obtain ⟨ad, cp, e⟩ := hoe.form
            unfold hdV at e
            cases e; rfl
          have HEN : Hid (es'.length = p2) := hp2
          have hel : p2 ≤ 100000 := by
            have h1 := hoe.len
            have h2 := List.length_filter_le P (PT.take j)
            rw [List.length_take, HPL.out] at h2
            omega
          have hbr : Below w.heap.size w wr := hbo.trans (hny.mono hbo.size)
          have hsz := hny.size
          have e0 := cell_later hny c0
          have e1 := cell_later hny c1
          have e2 := cell_later hny c2
          have lw : w.heap.size < wr.heap.size := World.block_lt_of_cell? _ _ e0
          clear hoe hp2
          unfold hdV
          dsimp only
          by_cases hjl : j < pl
          · have hjl2 : j < PT.length := by rw [HPL.out]; exact hjl
            obtain ⟨b1, o1, ee, x1, x2, x3, x4, x5⟩ := HEM.out j (by rw [HER.out.1, HPL.out]; exact hjl)
            subst ee
            have z1 := cell_later hbr x1
            have z2 := cell_later hbr x2
            have z3 := cell_later hbr x3
            have z4 := cell_later hbr x4
            have z5 := cell_later hbr x5
            have her := HER.out.2 j hjl2
            have HEE : Hid (ER w (pt.getD j default) (PT.getD j default)) := her
            have KK : Hid (Calls Try.prog fn (#[(pt.getD j default).val] ++ caps) wr fun r w' => r = .returned (.bool (P (PT.getD j default))) ∧ Below wr.heap.size wr w') := HWK.out j _ wr hjl2 (her.below hbr) hbr
            have KCP : Hid (∀ w1, Below w.heap.size w w1 → Calls Try.prog 71 #[hdV (pt.getD j default).row] w1 fun r w' => (∃ ad' c', r = .returned (.slice ad' (PT.getD j default).row.length c') ∧ ownV w' w1.heap.size (.slice ad' (PT.getD j default).row.length c') (PT.getD j default).row) ∧ Below w1.heap.size w1 w') := fun w1 hb => by
              have k := rcopy_any (pt.getD j default).row.1 (pt.getD j default).row.2.2 (PT.getD j default).row w1 (her.below hb).row (HROK.out j hjl2)
              unfold hdV
              rw [her.len]
              exact k
            have HF : Hid ((PT.take (j + 1)).filter P = (PT.take j).filter P ++ (if P (PT.getD j default) = true then [PT.getD j default] else [])) := filter_succ hjl2
            obtain ⟨xx, hxx⟩ : ∃ z, PT.getD j default = z := ⟨_, rfl⟩
            rw [hxx] at KK KCP HF HEE
            obtain ⟨⟨ek, et, es1, ⟨r1, r2, r3⟩, em⟩, hz⟩ : ∃ z, pt.getD j default = z := ⟨_, rfl⟩
            rw [hz] at z1 z2 z3 z4 z5 KK KCP HEE
            unfold EM.val hdV at KK
            unfold hdV at z4 KCP
            dsimp only at z1 z2 z3 z4 z5 KK KCP
            obtain ⟨rl, hrl⟩ : ∃ z, xx.row.length = z := ⟨_, rfl⟩
            have HRL : Hid (xx.row.length = rl) := hrl
            rw [hrl] at KCP
            have i1 : (0 : Int) ≤ (j : Int) := by omega
            have i2 : (j : Int) < (pl : Int) := by omega
            have lb1 : b1 < wr.heap.size := World.block_lt_of_cell? _ _ z1
            clear hz hxx her hrl x1 x2 x3 x4 x5
            cases hp : P xx with
            | false =>
              rw [hp] at KK HF
              go_wp2_with (go_at_fn fn; refine KK.out.mono ?_; rintro e6 w1 ⟨rfl, hb1⟩)
              go_roundw
              case rel => exact ⟨j + 1, (p1, p2, p3), es', rfl, by go_num, by omega, by rw [HF.out, if_neg Bool.false_ne_true, List.append_nil]; exact HOE.out.below hb1, hny.trans (hb1.mono hsz)⟩
              case measure => simp [intOf] <;> omega
            | true =>
              rw [hp] at KK HF
              go_wp2_with (first
                | (go_at_fn fn; refine KK.out.mono ?_; rintro e6 w1 ⟨rfl, hb1⟩; have y1 := cell_later hb1 z1; have y2 := cell_later hb1 z2; have y3 := cell_later hb1 z3; have y4 := cell_later hb1 z4; have y5 := cell_later hb1 z5; have lb2 : b1 < w1.heap.size := World.block_lt_of_cell? _ _ y1; have hbA : Below wr.heap.size wr (w1.alloc (.cells #[.string ek, .int .i64 et, .int .i64 es1, .slice r1 r2 r3, .bool em] 28)) := hb1.alloc hb1.size _)
                | (go_at_call 71; refine (KCP.out _ (hbr.trans (hbA.mono hbr.size))).mono ?_; rintro e6 w2 ⟨⟨ad2, c3, rfl, hov⟩, hb2⟩; have v0 : w2.cell? ⟨w1.heap.size, 0, none⟩ = some (.string ek) := cell_later hb2 (by go_simp); have v1 : w2.cell? ⟨w1.heap.size, 1, none⟩ = some (.int .i64 et) := cell_later hb2 (by go_simp); have v2 : w2.cell? ⟨w1.heap.size, 2, none⟩ = some (.int .i64 es1) := cell_later hb2 (by go_simp); have v3 : w2.cell? ⟨w1.heap.size, 3, none⟩ = some (.slice r1 r2 r3) := cell_later hb2 (by go_simp); have v4 : w2.cell? ⟨w1.heap.size, 4, none⟩ = some (.bool em) := cell_later hb2 (by go_simp); have vf : w2.frozen? ⟨w1.heap.size, 3, none⟩ = false := (hb2.frozen (p := ⟨w1.heap.size, 3, none⟩) (by simp)).trans (by go_simp); have hb12 : Below wr.heap.size wr (w2.setCell ⟨w1.heap.size, 3, none⟩ (.slice ad2 rl c3)) := (hbA.trans (hb2.mono hbA.size)).setCell hb1.size _; have HOV : Hid (ownV (w2.setCell ⟨w1.heap.size, 3, none⟩ (.slice ad2 rl c3)) wr.heap.size (.slice ad2 rl c3) xx.row) := copy_kept hov hb1.size (by simp) ; have HO2 : Hid ((w2.setCell ⟨w1.heap.size, 3, none⟩ (.slice ad2 rl c3)).ownsRow WO.heap.size 28 5 (.slice p1 p2 p3) p2 (entCells es')) := (by have h := own_below HOE.out.own hb12; rw [HEN.out] at h; exact h); have hs2 : WO.heap.size ≤ w2.heap.size := Nat.le_trans hsz (Nat.le_trans hbA.size hb2.size))
                | (at_builtin; refine wpList_append_own _ rfl (.tmp 50) (.tmp 52) 22 rfl WO.heap.size 28 iE (.agg #[.string ⟨#[]⟩, .int .i64 0, .int .i64 0, .slice none 0 0, .bool false]) 5 64 Try.underlying22 HJ.out.1 HJ.out.2.1 HJ.out.2.2.1 HJ.out.2.2.2 rfl (by decide) _ _ _ rfl (World.ownsRow.alloc HO2.out _) ⟨w2.heap.size, 0, none⟩ 1 1 [.string ek, .int .i64 et, .int .i64 es1, .slice ad2 rl c3, .bool em] rfl rfl (five_new (by simp [World.setCell]) ek et es1 (ad2, rl, c3) em) (by intro u hu; simp at hu; rcases hu with rfl | rfl | rfl | rfl | rfl <;> rfl) (by unfold maxLen; omega) (by omega) (by simp; omega) ?_; intro v9 w3 hown3 hgrow3 hnil3))
              obtain ⟨g3, c4, hv3⟩ := own_some hown3
              subst hv3
              have HSN := OE_snoc (e := ⟨ek, et, es1, (ad2, rl, c3), em⟩) (x := xx) (g := g3) (cap2 := c4) HOE.out hb12 ⟨HEE.out.key, HEE.out.time, HEE.out.seq, HEE.out.met, HRL.out.symm, own_mono HOV.out hsz⟩ (by rw [HEN.out]; exact hown3) hgrow3
              rw [HEN.out] at HSN
              go_roundw
              case rel => exact ⟨j + 1, (some ⟨g3, 0, none⟩, p2 + 1, c4), _, rfl, by go_num, by omega, by rw [HF.out, if_pos (by trivial)]; exact HSN.1, hny.trans HSN.2⟩
              case measure => simp [intOf] <;> omega
          · have hje : pl = j := by omega
            have HTK : Hid ((PT.take j).filter P = PT.filter P) := by show _ = _; rw [List.take_of_length_le (by rw [HPL.out]; omega)]
            have HOF : Hid (OE wr WO.heap.size (hdV (p1, p2, p3)) es' (PT.filter P)) := by rw [← HTK.out]; exact HOE.out
            clear hje
            have hjn : ¬ ((j : Int) < (pl : Int)) := by omega
            obtain ⟨hxz, hfz⟩ := HZ0.out (by trivial)
            subst hxz
            have hst := HST.out
            have hst2 : KSt WO (w.heap.size + 1) (w.heap.size + 1 + 1) (w.heap.size + 1) zeroX3 ⟨lim, [], []⟩ := hst
            have hs1 := hst2.below hny
            have q1 := hs1.c1
            unfold zeroX3 hdV at q1
            dsimp only at q1
            have lN : w.heap.size + 1 + 1 < WO.heap.size := tyAt_lt hst2.ty
            have qf : wr.frozen? ⟨w.heap.size + 1 + 1, 1, none⟩ = false := (hny.frozen (p := ⟨w.heap.size + 1 + 1, 1, none⟩) lN).trans hfz
            have HSC : Hid _ := startC hst2 hfz hny HOF.out
            clear hst hst2 hs1
            go_wp2
            go_roundw
            case rel => exact ⟨1, _, by omega, by go_num, by rw [← HPT.out]; exact HSC.out.1, (fun h => by cases h), hnx.trans HSC.out.2⟩
            case measure => simp [intOf] <;> omega
      | succ k =>
        obtain ⟨b2, o4, e4, x4⟩ := HD.out k (by rw [List.length_map, HN.out.1]; omega)
        subst e4
        have z0 := cell_later hbo x4
        have ee1 : (rs.map (·.1)).getD k (none, 0, 0) = (rs.getD k default).1 := by rw [List.getD_eq_getElem?_getD, List.getElem?_map, List.getElem?_eq_getElem (by rw [HN.out.1]; omega), List.getD_eq_getElem?_getD, List.getElem?_eq_getElem (by rw [HN.out.1]; omega)]; rfl
        rw [ee1] at z0
        have HPK : (rs.getD k default).1.2.1 = (PB.getD (k + 1) default).length ∧ emsAt w (rs.getD k default).1.1 (rs.getD k default).2 ∧ ERs w (rs.getD k default).2 (PB.getD (k + 1) default) := HP.out (k + 1) hkp
        have HLK := HLL.out (k + 1) hkp
        have HROK : Hid (∀ j, j < (PB.getD (k + 1) default).length → ((PB.getD (k + 1) default).getD j default).row.length ≤ 2000000) := fun j hj => HROW.out (k + 1) j hkp hj
        have HWK : Hid (∀ j e w1, j < (PB.getD (k + 1) default).length → ER w1 e ((PB.getD (k + 1) default).getD j default) → Below w.heap.size w w1 → Calls Try.prog fn (#[e.val] ++ caps) w1 fun r w' => r = .returned (.bool (P ((PB.getD (k + 1) default).getD j default))) ∧ Below w1.heap.size w1 w') := fun j e w1 hj he hb => HW.out (k + 1) j e w1 hkp hj he hb
        obtain ⟨PT, hPT⟩ : ∃ z, PB.getD (k + 1) default = z := ⟨_, rfl⟩
        have HPT : Hid (runs.getD k default = PT) := by show _ = PT; rw [← hPT]; exact (HPM.out.2 k).symm
        rw [hPT] at HPK HLK HROK HWK
        obtain ⟨⟨⟨m4, m5, m6⟩, pt⟩, hz⟩ : ∃ z, rs.getD k default = z := ⟨_, rfl⟩
        rw [hz] at z0 HPK
        unfold hdV at z0
        dsimp only at z0 HPK
        obtain ⟨pl, hpl⟩ : ∃ z, PT.length = z := ⟨_, rfl⟩
        have HPL : Hid (PT.length = pl) := hpl
        have hm2 : pl = m5 := by rw [← hpl, ← HPK.1]
        have HEM : Hid (emsAt w m4 pt) := HPK.2.1
        have HER : Hid (ERs w pt PT) := HPK.2.2
        rw [hpl] at HLK
        subst hm2
        have hsm : ((k + 1 : Nat) : Int) - 1 = (k : Int) := by omega
        have i3 : (0 : Int) ≤ (k : Int) := by omega
        have i4 : (k : Int) < (n : Int) := by omega
        have i5 : ¬ ((k : Int) < 0) := by omega
        clear HPK hpl hz ee1 x4 hPT
        rw [hsm]
        clear hsm
        go_wp2
        generalize wr = WO at *
        go_loopw [8, 9, 10] (fun o jj _ wq => ∃ (j : Nat) (hh : Hdr) (es : List EM), o = hdV hh ∧ jj = .int .i64 j ∧ j ≤ pl ∧ OE wq WO.heap.size (hdV hh) es ((PT.take j).filter P) ∧ Below WO.heap.size WO wq) (fun _ jj _ _ => pl - (intOf jj).toNat)
        case atStart => exact ⟨0, (none, 0, 0), [], rfl, rfl, Nat.zero_le _, OE_nil (Nat.le_refl _), Below.refl _ _⟩
        case round =>
          obtain ⟨j, ⟨p1, p2, p3⟩, es', rfl, rfl, hj, hoe, hny⟩ := hrel
          have HOE : Hid (OE wr WO.heap.size (hdV (p1, p2, p3)) es' ((PT.take j).filter P)) := hoe
          have hp2 : es'.length = p2 := by
            obtain ⟨ad, cp, e⟩ := hoe.form
            unfold hdV at e
            cases e; rfl
          have HEN : Hid (es'.length = p2) := hp2
          have hel : p2 ≤ 100000 := by
            have h1 := hoe.len
            have h2 := List.length_filter_le P (PT.take j)
            rw [List.length_take, HPL.out] at h2
            omega
          have hbr : Below w.heap.size w wr := hbo.trans (hny.mono hbo.size)
          have hsz := hny.size
          have e0 := cell_later hny c0
          have e1 := cell_later hny c1
          have e2 := cell_later hny c2
          have lw : w.heap.size < wr.heap.size := World.block_lt_of_cell? _ _ e0
          clear hoe hp2
          unfold hdV
          dsimp only
          by_cases hjl : j < pl
          · have hjl2 : j < PT.length := by rw [HPL.out]; exact hjl
            obtain ⟨b1, o1, ee, x1, x2, x3, x4, x5⟩ := HEM.out j (by rw [HER.out.1, HPL.out]; exact hjl)
            subst ee
            have z1 := cell_later hbr x1
            have z2 := cell_later hbr x2
            have z3 := cell_later hbr x3
            have z4 := cell_later hbr x4
            have z5 := cell_later hbr x5
            have her := HER.out.2 j hjl2
            have HEE : Hid (ER w (pt.getD j default) (PT.getD j default)) := her
            have KK : Hid (Calls Try.prog fn (#[(pt.getD j default).val] ++ caps) wr fun r w' => r = .returned (.bool (P (PT.getD j default))) ∧ Below wr.heap.size wr w') := HWK.out j _ wr hjl2 (her.below hbr) hbr
            have KCP : Hid (∀ w1, Below w.heap.size w w1 → Calls Try.prog 71 #[hdV (pt.getD j default).row] w1 fun r w' => (∃ ad' c', r = .returned (.slice ad' (PT.getD j default).row.length c') ∧ ownV w' w1.heap.size (.slice ad' (PT.getD j default).row.length c') (PT.getD j default).row) ∧ Below w1.heap.size w1 w') := fun w1 hb => by
              have k := rcopy_any (pt.getD j default).row.1 (pt.getD j default).row.2.2 (PT.getD j default).row w1 (her.below hb).row (HROK.out j hjl2)
              unfold hdV
              rw [her.len]
              exact k
            have HF : Hid ((PT.take (j + 1)).filter P = (PT.take j).filter P ++ (if P (PT.getD j default) = true then [PT.getD j default] else [])) := filter_succ hjl2
            obtain ⟨xx, hxx⟩ : ∃ z, PT.getD j default = z := ⟨_, rfl⟩
            rw [hxx] at KK KCP HF HEE
            obtain ⟨⟨ek, et, es1, ⟨r1, r2, r3⟩, em⟩, hz⟩ : ∃ z, pt.getD j default = z := ⟨_, rfl⟩
            rw [hz] at z1 z2 z3 z4 z5 KK KCP HEE
            unfold EM.val hdV at KK
            unfold hdV at z4 KCP
            dsimp only at z1 z2 z3 z4 z5 KK KCP
            obtain ⟨rl, hrl⟩ : ∃ z, xx.row.length = z := ⟨_, rfl⟩
            have HRL : Hid (xx.row.length = rl) := hrl
            rw [hrl] at KCP
            have i1 : (0 : Int) ≤ (j : Int) := by omega
            have i2 : (j : Int) < (pl : Int) := by omega
            have lb1 : b1 < wr.heap.size := World.block_lt_of_cell? _ _ z1
            clear hz hxx her hrl x1 x2 x3 x4 x5
            cases hp : P xx with
            | false =>
              rw [hp] at KK HF
              go_wp2_with (go_at_fn fn; refine KK.out.mono ?_; rintro e6 w1 ⟨rfl, hb1⟩)
              go_roundw
              case rel => exact ⟨j + 1, (p1, p2, p3), es', rfl, by go_num, by omega, by rw [HF.out, if_neg Bool.false_ne_true, List.append_nil]; exact HOE.out.below hb1, hny.trans (hb1.mono hsz)⟩
              case measure => simp [intOf] <;> omega
            | true =>
              rw [hp] at KK HF
              go_wp2_with (first
                | (go_at_fn fn; refine KK.out.mono ?_; rintro e6 w1 ⟨rfl, hb1⟩; have y1 := cell_later hb1 z1; have y2 := cell_later hb1 z2; have y3 := cell_later hb1 z3; have y4 := cell_later hb1 z4; have y5 := cell_later hb1 z5; have lb2 : b1 < w1.heap.size := World.block_lt_of_cell? _ _ y1; have hbA : Below wr.heap.size wr (w1.alloc (.cells #[.string ek, .int .i64 et, .int .i64 es1, .slice r1 r2 r3, .bool em] 28)) := hb1.alloc hb1.size _)
                | (go_at_call 71; refine (KCP.out _ (hbr.trans (hbA.mono hbr.size))).mono ?_; rintro e6 w2 ⟨⟨ad2, c3, rfl, hov⟩, hb2⟩; have v0 : w2.cell? ⟨w1.heap.size, 0, none⟩ = some (.string ek) := cell_later hb2 (by go_simp); have v1 : w2.cell? ⟨w1.heap.size, 1, none⟩ = some (.int .i64 et) := cell_later hb2 (by go_simp); have v2 : w2.cell? ⟨w1.heap.size, 2, none⟩ = some (.int .i64 es1) := cell_later hb2 (by go_simp); have v3 : w2.cell? ⟨w1.heap.size, 3, none⟩ = some (.slice r1 r2 r3) := cell_later hb2 (by go_simp); have v4 : w2.cell? ⟨w1.heap.size, 4, none⟩ = some (.bool em) := cell_later hb2 (by go_simp); have vf : w2.frozen? ⟨w1.heap.size, 3, none⟩ = false := (hb2.frozen (p := ⟨w1.heap.size, 3, none⟩) (by simp)).trans (by go_simp); have hb12 : Below wr.heap.size wr (w2.setCell ⟨w1.heap.size, 3, none⟩ (.slice ad2 rl c3)) := (hbA.trans (hb2.mono hbA.size)).setCell hb1.size _; have HOV : Hid (ownV (w2.setCell ⟨w1.heap.size, 3, none⟩ (.slice ad2 rl c3)) wr.heap.size (.slice ad2 rl c3) xx.row) := copy_kept hov hb1.size (by simp) ; have HO2 : Hid ((w2.setCell ⟨w1.heap.size, 3, none⟩ (.slice ad2 rl c3)).ownsRow WO.heap.size 28 5 (.slice p1 p2 p3) p2 (entCells es')) := (by have h := own_below HOE.out.own hb12; rw [HEN.out] at h; exact h); have hs2 : WO.heap.size ≤ w2.heap.size := Nat.le_trans hsz (Nat.le_trans hbA.size hb2.size))
                | (at_builtin; refine wpList_append_own _ rfl (.tmp 50) (.tmp 52) 22 rfl WO.heap.size 28 iE (.agg #[.string ⟨#[]⟩, .int .i64 0, .int .i64 0, .slice none 0 0, .bool false]) 5 64 Try.underlying22 HJ.out.1 HJ.out.2.1 HJ.out.2.2.1 HJ.out.2.2.2 rfl (by decide) _ _ _ rfl (World.ownsRow.alloc HO2.out _) ⟨w2.heap.size, 0, none⟩ 1 1 [.string ek, .int .i64 et, .int .i64 es1, .slice ad2 rl c3, .bool em] rfl rfl (five_new (by simp [World.setCell]) ek et es1 (ad2, rl, c3) em) (by intro u hu; simp at hu; rcases hu with rfl | rfl | rfl | rfl | rfl <;> rfl) (by unfold maxLen; omega) (by omega) (by simp; omega) ?_; intro v9 w3 hown3 hgrow3 hnil3))
              obtain ⟨g3, c4, hv3⟩ := own_some hown3
              subst hv3
              have HSN := OE_snoc (e := ⟨ek, et, es1, (ad2, rl, c3), em⟩) (x := xx) (g := g3) (cap2 := c4) HOE.out hb12 ⟨HEE.out.key, HEE.out.time, HEE.out.seq, HEE.out.met, HRL.out.symm, own_mono HOV.out hsz⟩ (by rw [HEN.out]; exact hown3) hgrow3
              rw [HEN.out] at HSN
              go_roundw
              case rel => exact ⟨j + 1, (some ⟨g3, 0, none⟩, p2 + 1, c4), _, rfl, by go_num, by omega, by rw [HF.out, if_pos (by trivial)]; exact HSN.1, hny.trans HSN.2⟩
              case measure => simp [intOf] <;> omega
          · have hje : pl = j := by omega
            have HTK : Hid ((PT.take j).filter P = PT.filter P) := by show _ = _; rw [List.take_of_length_le (by rw [HPL.out]; omega)]
            have HOF : Hid (OE wr WO.heap.size (hdV (p1, p2, p3)) es' (PT.filter P)) := by rw [← HTK.out]; exact HOE.out
            clear hje
            have hjn : ¬ ((j : Int) < (pl : Int)) := by omega
            have hst := HST.out.below hny
            have hrl := HST.out.ob.rlen
            have hrn : x'.rs.length ≤ 100000 := by
              have h1 := keptR_len P (runs.take k)
              rw [List.length_take] at h1
              unfold stB at hrl
              dsimp only at hrl
              rw [hrl]
              simp only [Nat.add_sub_cancel]
              omega
            have q2 := hst.c2
            have qf := hst.f2
            have HOH : Hid (wr.ownsRow (w.heap.size + 1) 22 1 (.slice x'.ra x'.rs.length x'.rc) x'.rs.length (x'.rs.map fun p => hdV p.1)) := hst.ob.hds
            have hlow : w.heap.size + 1 ≤ wr.heap.size := hst.ob.low
            have HKS : Hid (keptR P (runs.take (k + 1)) = keptR P (runs.take k) ++ (if 0 < (PT.filter P).length then [PT.filter P] else [])) := by
              show _ = _
              rw [keptR_succ (by rw [HN.out.2]; omega), HPT.out]
            have hpl2 : p2 = (PT.filter P).length := by rw [← HEN.out]; exact HOF.out.len
            have lN : w.heap.size + 1 + 1 < wr.heap.size := tyAt_lt hst.ty
            clear hst hrl
            by_cases hp0 : 0 < p2
            · have HE : Hid (stB P lim mem runs (k + 1 + 1) = (stB P lim mem runs (k + 1)).more (PT.filter P)) := by
                have e1 : keptR P (runs.take (k + 1)) = keptR P (runs.take k) ++ [PT.filter P] := by rw [HKS.out, if_pos (by rw [← hpl2]; exact hp0)]
                show _ = _
                simp [stB, Buf.more, e1]
              obtain ⟨rn, hrn0⟩ : ∃ z, x'.rs.length = z := ⟨_, rfl⟩
              have HRN : Hid (x'.rs.length = rn) := hrn0
              obtain ⟨ra', rc', xm', rs'⟩ := x'
              dsimp only at hrn0 HRN q2 HOH hrn
              rw [hrn0] at q2 HOH hrn
              clear hrn0 hpl2
              go_wp2_with (at_builtin; refine wpList_append_own _ rfl (.tmp 62) (.tmp 64) 23 rfl (w.heap.size + 1) 22 i0 (.slice none 0 0) 1 24 Try.underlying23 HI.out.1 HI.out.2.1 HI.out.2.2.1 HI.out.2.2.2 rfl (by decide) _ _ _ rfl (World.ownsRow.alloc HOH.out _) ⟨wr.heap.size, 0, none⟩ 1 1 [.slice p1 p2 p3] rfl rfl (cell_one_new _ _ rfl _) (by intro u hu; simp at hu; rcases hu with rfl; rfl) (by unfold maxLen; omega) (by omega) (by simp; omega) ?_; intro v3 w3 hown3 hgrow3 hnil3; have hmid := KSt_mid HST.out hny (by dsimp only; rw [HRN.out]; exact hgrow3); dsimp only at hmid; rw [HRN.out] at hmid; obtain ⟨t2, tf⟩ := hmid; obtain ⟨g3, c3, hv3⟩ := own_some hown3; subst hv3)
              have HSN := KSt_snoc (g := g3) (cap2 := c3) (p := ((p1, p2, p3), es')) (l := PT.filter P) HST.out hny HOF.out (by dsimp only; rw [HRN.out]; exact hown3) (by dsimp only; rw [HRN.out]; exact hgrow3)
              rw [← HE.out] at HSN
              dsimp only at HSN
              rw [HRN.out] at HSN
              go_roundw
              case rel => exact ⟨k + 1 + 1, _, by omega, (by first | go_num | (congr 1; omega)), HSN.1, (fun h => by cases h), hnx.trans HSN.2⟩
              case measure => simp [intOf] <;> omega
            · have HE : Hid (stB P lim mem runs (k + 1 + 1) = stB P lim mem runs (k + 1)) := by
                have e1 : keptR P (runs.take (k + 1)) = keptR P (runs.take k) := by rw [HKS.out, if_neg (by rw [← hpl2]; exact hp0), List.append_nil]
                show _ = _
                simp [stB, e1]
              clear hpl2
              go_wp2
              go_roundw
              case rel => exact ⟨k + 1 + 1, x', by omega, (by first | go_num | (congr 1; omega)), by rw [HE.out]; exact HST.out.below hny, (fun h => by cases h), hnx.trans (hny.mono (by omega))⟩
              case measure => simp [intOf] <;> omega
    · have hke : k = n + 1 := by omega
      subst hke
      have hst := HST.out
      have HEB : Hid (stB P lim mem runs (n + 1) = keptB P ⟨lim, mem, runs⟩) := by
        show _ = _
        unfold stB keptB
        rw [Nat.add_sub_cancel, List.take_of_length_le (by rw [HN.out.2]; exact Nat.le_refl _)]
        rfl
      rw [HEB.out] at hst HST
      have d0 := hst.c0
      have d1 := hst.c1
      have d2 := hst.c2
      have r0 := hst.r0
      have r1 := hst.r1
      have r2 := hst.r2
      have g0 := hst.g0
      have g1 := hst.g1
      have g2 := hst.g2
      have lC : w.heap.size + 1 < wr.heap.size := tyAt_lt hst.rt
      have lN : w.heap.size + 1 + 1 < wr.heap.size := tyAt_lt hst.ty
      obtain ⟨ra', rc', ⟨⟨a1, a2, a3⟩, ml'⟩, rs'⟩ := x'
      unfold hdV at d1
      unfold keptB at d0
      dsimp only at d0 d1 d2
      obtain ⟨rn, hrn0⟩ : ∃ z, rs'.length = z := ⟨_, rfl⟩
      have HRN : Hid (rs'.length = rn) := hrn0
      rw [hrn0] at d2
      have hsm : ((n + 1 : Nat) : Int) - 1 = (n : Int) := by omega
      have hno : ¬ ((n : Int) < (n : Int)) := by omega
      rw [hsm]
      clear hsm hrn0 hst
      go_wp2
      refine bodyPost_ret (v := .agg #[.int .i64 lim, .slice a1 a2 a3, .slice ra' rn rc']) (by simp [results, Try.results43, go_sem, r0, r1, r2, d0, d1, d2]) rfl ⟨⟨⟨ra', rc', ((a1, a2, a3), ml'), rs'⟩, ?_, ?_⟩, ?_⟩
      · unfold keptB
        dsimp only
        rw [HRN.out]
      · exact OB_mono (OB_set3 HST.out.ob HST.out.rt _ _ _) (by omega)
      · exact ((hbo.setCell (by dsimp only; omega) _).setCell (by dsimp only; omega) _).setCell (by dsimp only; omega) _
end Go.Proofs.Ytnfknkihiapgiaa.bf
