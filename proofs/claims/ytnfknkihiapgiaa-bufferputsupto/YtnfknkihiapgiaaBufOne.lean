/- The small functions of package buffer and their document's twins: limitRight, byPlace, placeOf, entryRight; ComparePlace, entryFine. -/
import Derived.Test.YtnfknkihiapgiaaBufPure
namespace Go.Proofs.Ytnfknkihiapgiaa.bf
open Go.ChangeShapes Go.WideShapes Go.ChangeAt Go.RowKit
open vl
set_option linter.unusedVariables false
set_option linter.unusedSimpArgs false
def betw (n a b : Int) : Bool := decide (a ≤ n ∧ n ≤ b)
theorem betw_iff (n a b : Int) : betw n a b = true ↔ (a ≤ n ∧ n ≤ b) := by simp [betw]
theorem betw_no (n a b : Int) : betw n a b = false ↔ ¬ (a ≤ n ∧ n ≤ b) := by unfold betw; exact decide_eq_false_iff_not
theorem within_any (n a b : Int) (w : World) :
    Calls Try.prog 39 #[.int .i64 n, .int .i64 a, .int .i64 b] w fun e w' => e = .returned (.bool (betw n a b)) ∧ w' = w := by
  by_cases h1 : a ≤ n
  · by_cases h2 : n ≤ b
    · rw [(betw_iff n a b).2 ⟨h1, h2⟩]
      go_enter Try.func39, Try.ntmps39
      go_wp2
      go_ret
      exact ⟨rfl, rfl⟩
    · rw [(betw_no n a b).2 (by omega)]
      go_enter Try.func39, Try.ntmps39
      go_wp2
      go_ret
      exact ⟨rfl, rfl⟩
  · rw [(betw_no n a b).2 (by omega)]
    go_enter Try.func39, Try.ntmps39
    go_wp2
    go_ret
    exact ⟨rfl, rfl⟩
theorem limitRight_any (n : Int) (w : World) :
    Calls Try.prog 29 #[.int .i64 n] w fun e w' => e = .returned (.bool (betw n 1 64)) ∧ w' = w := by
  by_cases h1 : 1 ≤ n
  · by_cases h2 : n ≤ 64
    · rw [(betw_iff n 1 64).2 ⟨h1, h2⟩]
      go_enter Try.func29, Try.ntmps29
      go_wp2
      go_ret
      exact ⟨rfl, rfl⟩
    · rw [(betw_no n 1 64).2 (by omega)]
      go_enter Try.func29, Try.ntmps29
      go_wp2
      go_ret
      exact ⟨rfl, rfl⟩
  · rw [(betw_no n 1 64).2 (by omega)]
    go_enter Try.func29, Try.ntmps29
    go_wp2
    go_ret
    exact ⟨rfl, rfl⟩
set_option maxHeartbeats 400000 in
theorem or_any (b : Nat) (zs : List Int) (w : World) (hl : zs.length ≤ 100)
    (hc : ∀ i, i < zs.length → w.cell? ⟨b, i, none⟩ = some (.int .i64 (zs[i]?.getD 0))) :
    Calls Try.prog 65 #[.slice (some ⟨b, 0, none⟩) zs.length zs.length] w fun e w' => e = .returned (.int .i64 (firstNZ zs)) ∧ w' = w := by
  go_enter Try.func65, Try.ntmps65
  go_wp2
  go_loop [8] (fun i => ∃ k : Nat, k ≤ zs.length ∧ i = .int .i64 k ∧ ∀ i, i < k → zs[i]?.getD 0 = 0) (fun i => zs.length - (intOf i).toNat)
  case atStart => exact ⟨0, Nat.zero_le _, rfl, fun i hi => absurd hi (Nat.not_lt_zero i)⟩
  case round =>
    obtain ⟨k, hk, rfl, hall⟩ := hrel
    have HA : Hid (∀ i, i < k → zs[i]?.getD 0 = 0) := hall
    clear hall
    by_cases hlt : k < zs.length
    · have hcell := hc k hlt
      obtain ⟨z, hz0⟩ : ∃ z, zs[k]?.getD 0 = z := ⟨_, rfl⟩
      rw [hz0] at hcell
      have HZ : Hid (zs[k]?.getD 0 = z) := hz0
      clear hc hz0
      by_cases hf : (z == 0) = true
      · have hf2 : z = 0 := by simpa using hf
        have HF : Hid (z = 0) := hf2
        clear hf2
        go_wp2
        go_round
        case rel => exact ⟨k + 1, by omega, by go_num, fun i hi => by
          rcases Nat.lt_succ_iff_lt_or_eq.1 hi with h | h
          · exact HA.out i h
          · rw [h, HZ.out]; exact HF.out⟩
        case measure => simp [intOf]; omega
      · have hf' : (z == 0) = false := by simpa using hf
        have hne : Hid (firstNZ zs = z) := by
          show firstNZ zs = z
          rw [firstNZ_at zs k HA.out hlt (by rw [HZ.out]; simpa using hf)]; exact HZ.out
        go_wp2
        go_ret
        exact ⟨ret_int (by rw [hne.out]), rfl⟩
    · have hz : Hid (firstNZ zs = 0) := by
        show firstNZ zs = 0
        rw [firstNZ_zero zs k HA.out, List.drop_of_length_le (by omega)]; rfl
      go_wp2
      go_ret
      exact ⟨ret_int (by rw [hz.out]), rfl⟩
theorem or3 (b : Nat) (x y z : Int) (w : World) (h0 : w.cell? ⟨b, 0, none⟩ = some (.int .i64 x)) (h1 : w.cell? ⟨b, 1, none⟩ = some (.int .i64 y)) (h2 : w.cell? ⟨b, 2, none⟩ = some (.int .i64 z)) :
    Calls Try.prog 65 #[.slice (some ⟨b, 0, none⟩) 3 3] w fun e w' => e = .returned (.int .i64 (firstNZ [x, y, z])) ∧ w' = w :=
  or_any b [x, y, z] w (by simp) (fun i hi => by
    match i, hi with
    | 0, _ => exact h0
    | 1, _ => exact h1
    | 2, _ => exact h2)
/-- the entry without its row -/
def EM.ent (e : EM) : Ent := ⟨e.key, e.time, e.seq, [], e.met⟩
theorem cmpP_ent {w : World} {e f : EM} {x y : Ent} (h : ER w e x) (k : ER w f y) : cmpP e.ent f.ent = cmpP x y := by
  unfold cmpP ltP sameP EM.ent
  simp only [h.key, h.time, h.seq, k.key, k.time, k.seq]
attribute [local go_sem ↓] Go.wp_at_zero Go.wp_at_succ
set_option maxRecDepth 100000 in
set_option maxHeartbeats 4000000 in
theorem byPlace_any (e f : EM) (w : World) :
    Calls Try.prog 38 #[e.val, f.val] w fun r w' => r = .returned (.int .i64 (cmpP e.ent f.ent)) ∧ Below w.heap.size w w' := by
  have HC : Hid (firstNZ [Lib.compareBytes e.key.data.toList f.key.data.toList, ordI e.time f.time, ordI e.seq f.seq] = cmpP e.ent f.ent) := cmpP_first e.ent f.ent
  obtain ⟨k1, t1, s1, ⟨a1, b1, c1⟩, m1⟩ := e
  obtain ⟨k2, t2, s2, ⟨a2, b2, c2⟩, m2⟩ := f
  rw [← HC.out]
  clear HC
  unfold EM.val hdV
  dsimp only
  go_enter Try.func38, Try.ntmps38
  go_wp2
  go_region_held3 (fun w' => w'.cell? ⟨w.heap.size, 0, none⟩ = some (.string k1) ∧ w'.cell? ⟨w.heap.size, 1, none⟩ = some (.int .i64 t1) ∧ w'.cell? ⟨w.heap.size, 2, none⟩ = some (.int .i64 s1) ∧ w'.cell? ⟨w.heap.size + 1, 0, none⟩ = some (.string k2) ∧ w'.cell? ⟨w.heap.size + 1, 1, none⟩ = some (.int .i64 t2) ∧ w'.cell? ⟨w.heap.size + 1, 2, none⟩ = some (.int .i64 s2)) (go_keep)
    (first
      | (go_at_call 67; refine (cmpInt_any _ _ _).mono ?_; rintro e w' ⟨rfl, rfl⟩)
      | (go_at_call 66; refine (strCmp_any _ _ _).mono ?_; rintro e w' ⟨rfl, rfl⟩)
      | (go_at_call 65; refine (or3 _ (Lib.compareBytes k1.data.toList k2.data.toList) (ordI t1 t2) (ordI s1 s2) _ ?_ ?_ ?_).mono ?_; (go_simp); (go_simp); (go_simp); rintro e w' ⟨rfl, rfl⟩))
  all_goals
    go_wp2
    go_ret
    refine ⟨rfl, ?_⟩
    repeat (first | exact Below.refl _ _ | apply Below.drew | (refine Below.alloc ?_ (by simp <;> omega) _))
theorem placeOf_any (e : EM) (w : World) :
    Calls Try.prog 32 #[e.val] w fun r w' => r = .returned (.agg #[.string e.key, .int .i64 e.time, .int .i64 e.seq]) ∧ Below w.heap.size w w' := by
  obtain ⟨k1, t1, s1, ⟨a1, b1, c1⟩, m1⟩ := e
  unfold EM.val hdV
  dsimp only
  go_enter Try.func32, Try.ntmps32
  go_wp2
  refine bodyPost_ret (v := .agg #[.string k1, .int .i64 t1, .int .i64 s1]) (by simp [results, Try.results32, go_sem]) rfl ⟨rfl, ?_⟩
  repeat (first | exact Below.refl _ _ | apply Below.drew | (refine Below.setCell ?_ (by simp) _) | (refine Below.alloc ?_ (by simp <;> omega) _))
/-! ### an entry that is right -/
def isKey (k : ByteArray) : Prop := ∃ r, rowOk r ∧ encR r = k.data.toList
structure wfE (x : Ent) : Prop where
  key : x.key.size ≤ maxLen
  row : wfRow x.row
  len : x.row.length ≤ 9223372036854775807
def fineE (x : Ent) : Prop := isKey x.key ∧ keyErr x.row = 0 ∧ tm.fitB x.time = true ∧ 0 ≤ x.seq ∧ x.seq ≤ 1099511627776
noncomputable def fineB (x : Ent) : Bool := @decide (fineE x) (Classical.propDecidable _)
theorem fineB_yes {x : Ent} (h : fineE x) : fineB x = true := by unfold fineB; exact @decide_eq_true _ (Classical.propDecidable _) h
theorem fineB_no {x : Ent} (h : ¬ fineE x) : fineB x = false := by unfold fineB; exact @decide_eq_false _ (Classical.propDecidable _) h
theorem fineB_iff {x : Ent} : fineB x = true ↔ fineE x := by
  by_cases h : fineE x
  · simp [fineB_yes h, h]
  · simp [fineB_no h, h]
theorem no_key {k : ByteArray} (h : ¬ isKey k) : noKey k.data.toList := fun r hr e => h ⟨r, hr, e⟩
set_option maxHeartbeats 4000000 in
theorem entryRight_any (e : EM) (x : Ent) (w : World) (h : ER w e x) (hw : wfE x) :
    Calls Try.prog 30 #[e.val] w fun r w' => r = .returned (.bool (fineB x)) ∧ Below w.heap.size w w' := by
  obtain ⟨k1, t1, s1, ⟨a1, b1, c1⟩, m1⟩ := e
  obtain ⟨h1, h2, h3, h4, h5, h6⟩ := h
  obtain ⟨xk, xt, xs, xr, xm⟩ := x
  obtain ⟨w1, w2, w3⟩ := hw
  dsimp only at h1 h2 h3 h4 h5 h6 w1 w2 w3
  subst h1 h2 h3 h4 h5
  obtain ⟨R, hR⟩ : ∃ z, fineB ⟨k1, t1, s1, xr, m1⟩ = z := ⟨_, rfl⟩
  have HRt : Hid (fineE ⟨k1, t1, s1, xr, m1⟩ → true = R) := fun h => by rw [← hR, fineB_yes h]
  have HRf : Hid (¬ fineE ⟨k1, t1, s1, xr, m1⟩ → false = R) := fun h => by rw [← hR, fineB_no h]
  have KK : Hid (∀ w1, Below w.heap.size w w1 → Calls Try.prog 59 #[.slice a1 xr.length c1] w1 fun e w' => e = .returned (.tuple #[.string (keyS xr), .int .i64 (keyErr xr)]) ∧ Below w1.heap.size w1 w') := fun w1 hb => key_any a1 c1 xr w1 (vl.rowAt_below h6 hb) w2 w3
  rw [hR]
  obtain ⟨ke, hke⟩ : ∃ z, keyErr xr = z := ⟨_, rfl⟩
  obtain ⟨ks, hks⟩ : ∃ z, keyS xr = z := ⟨_, rfl⟩
  rw [hke, hks] at KK
  have HKE : Hid (keyErr xr = ke) := hke
  obtain ⟨n, hn⟩ : ∃ z, xr.length = z := ⟨_, rfl⟩
  rw [hn] at KK
  unfold EM.val hdV
  dsimp only
  rw [hn]
  clear hR hke hks hn h6 w2 w3
  have hb0 : Below w.heap.size w (w.alloc (.cells #[.string k1, .int .i64 t1, .int .i64 s1, .slice a1 n c1, .bool m1] 28)) := (Below.refl _ _).alloc (Nat.le_refl _) _
  by_cases hk : isKey k1
  · obtain ⟨r0, hr0, hk0⟩ := hk
    have KB : Hid (∀ w1, Calls Try.prog 58 #[.string k1] w1 fun e w' => (∃ ad cap, e = .returned (.tuple #[.slice ad r0.length cap, .int .i64 0])) ∧ Below w1.heap.size w1 w') := fun w1' => (back_yes k1 r0 w1' w1 hr0 hk0).mono (fun e w' ⟨⟨ad, cap, he, _⟩, hb⟩ => ⟨⟨ad, cap, he⟩, hb⟩)
    have HK : Hid (isKey k1) := ⟨r0, hr0, hk0⟩
    obtain ⟨rl, hrl⟩ : ∃ z, r0.length = z := ⟨_, rfl⟩
    rw [hrl] at KB
    clear hk0 hr0 hrl
    go_enter Try.func30, Try.ntmps30
    go_wp2_with fail
    refine (KB.out _).mono ?_
    rintro e wa ⟨⟨ad, cap, rfl⟩, hb1⟩
    have c0 : wa.cell? ⟨w.heap.size, 0, none⟩ = some (.string k1) := by rw [hb1.cell (p := ⟨w.heap.size, 0, none⟩) (by simp)]; go_simp
    have c1' : wa.cell? ⟨w.heap.size, 1, none⟩ = some (.int .i64 t1) := by rw [hb1.cell (p := ⟨w.heap.size, 1, none⟩) (by simp)]; go_simp
    have c2 : wa.cell? ⟨w.heap.size, 2, none⟩ = some (.int .i64 s1) := by rw [hb1.cell (p := ⟨w.heap.size, 2, none⟩) (by simp)]; go_simp
    have c3 : wa.cell? ⟨w.heap.size, 3, none⟩ = some (.slice a1 n c1) := by rw [hb1.cell (p := ⟨w.heap.size, 3, none⟩) (by simp)]; go_simp
    have hbw := hb0.trans (hb1.mono hb0.size)
    clear hb1
    go_wp2_with fail
    refine (KK.out _ hbw).mono ?_
    rintro e wb ⟨rfl, hb2⟩
    have d1 := cell_later hb2 c1'
    have d2 := cell_later hb2 c2
    have hbx := hbw.trans (hb2.mono hbw.size)
    clear hb2 c0 c1' c2 c3
    by_cases h0 : ke = 0
    · subst h0
      have KF : Hid (∀ w1, Calls Try.prog 60 #[.int .i64 t1] w1 fun e w' => e = .returned (.bool (tm.fitB t1)) ∧ w' = w1) := fun w1 => tm.fits_any t1 w1
      cases hf : tm.fitB t1 with
      | false =>
        have HE : Hid (false = R) := HRf.out (fun h => by have := h.2.2.1; rw [hf] at this; cases this)
        rw [hf] at KF
        go_wp2_with (go_at_call 60; refine (KF.out _).mono ?_; rintro e w' ⟨rfl, hww⟩; subst hww)
        go_ret
        exact ⟨ret_bool HE.out, hbx⟩
      | true =>
        rw [hf] at KF
        by_cases s0 : 0 ≤ s1
        · by_cases s2 : s1 ≤ 1099511627776
          · have HE : Hid (true = R) := HRt.out ⟨HK.out, HKE.out, hf, s0, s2⟩
            go_wp2_with (go_at_call 60; refine (KF.out _).mono ?_; rintro e w' ⟨rfl, hww⟩; subst hww)
            go_ret
            exact ⟨ret_bool HE.out, hbx⟩
          · have HE : Hid (false = R) := HRf.out (fun h => s2 h.2.2.2.2)
            go_wp2_with (go_at_call 60; refine (KF.out _).mono ?_; rintro e w' ⟨rfl, hww⟩; subst hww)
            go_ret
            exact ⟨ret_bool (by rw [← HE.out]; exact decide_eq_false (by omega)), hbx⟩
        · have HE : Hid (false = R) := HRf.out (fun h => s0 h.2.2.2.1)
          go_wp2_with (go_at_call 60; refine (KF.out _).mono ?_; rintro e w' ⟨rfl, hww⟩; subst hww)
          go_ret
          exact ⟨ret_bool HE.out, hbx⟩
    · have hb' : (ke == 0) = false := by simpa using h0
      have HE : Hid (false = R) := HRf.out (fun h => h0 (by rw [← HKE.out]; exact h.2.1))
      go_wp2
      go_ret
      exact ⟨ret_bool HE.out, hbx⟩
  · have KB : Hid (∀ w1, Calls Try.prog 58 #[.string k1] w1 fun e w' => e = .returned (.tuple #[.slice none 0 0, .int .i64 1]) ∧ Below w1.heap.size w1 w') := fun w1' => back_no k1 w1' w1 (no_key hk)
    have HE : Hid (false = R) := HRf.out (fun h => hk h.1)
    clear hk
    go_enter Try.func30, Try.ntmps30
    go_wp2_with fail
    refine (KB.out _).mono ?_
    rintro e wa ⟨rfl, hb1⟩
    have c3 : wa.cell? ⟨w.heap.size, 3, none⟩ = some (.slice a1 n c1) := by rw [hb1.cell (p := ⟨w.heap.size, 3, none⟩) (by simp)]; go_simp
    have hbw := hb0.trans (hb1.mono hb0.size)
    clear hb1
    go_wp2_with fail
    refine (KK.out _ hbw).mono ?_
    rintro e wb ⟨rfl, hb2⟩
    have hbx := hbw.trans (hb2.mono hbw.size)
    go_wp2
    go_ret
    exact ⟨ret_bool HE.out, hbx⟩
end Go.Proofs.Ytnfknkihiapgiaa.bf
