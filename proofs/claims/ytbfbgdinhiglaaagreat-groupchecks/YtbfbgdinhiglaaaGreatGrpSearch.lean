/- slices.BinarySearchFunc at groups and at tallies. -/
import Derived.Test.YtbfbgdinhiglaaaGreatGrpPure
namespace Go.Proofs.YtbfbgdinhiglaaaGreat.gr
open Go.ChangeShapes Go.WideShapes Go.ChangeAt Go.RowKit
open vl pl bt
set_option linter.unusedVariables false
set_option linter.unusedSimpArgs false
attribute [local go_sem] Oper.semAt_some
set_option maxHeartbeats 4000000 in
set_option maxRecDepth 100000 in
theorem searchG_any (fn : FuncId) (eg : ∀ args w, (callFunc fn args).run Tryz.prog w = .ok (.enter fn args) w) (F : Nat → Int) (a : Option Addr) (cap : Nat) (xs : List GX) (l : List Grp) (ra : Option Addr) (rn rc : Nat) (w : World) (hl : l.length < 4611686018427387904) (ha : gsAt w a xs l)
    (H : ∀ i w1, i < l.length → Below w.heap.size w w1 → Calls Tryz.prog fn #[grpV (xs.getD i default) (l.getD i default), .slice ra rn rc] w1 fun e w' => e = .returned (.int .i64 (F i)) ∧ Below w1.heap.size w1 w') (hm : ∀ a b, a ≤ b → b < l.length → F b < 0 → F a < 0) :
    Calls Tryz.prog 81 #[.slice a l.length cap, .slice ra rn rc, .func (.func fn) #[] #[]] w fun e w' =>
      (∃ i : Nat, i ≤ l.length ∧ e = .returned (.tuple #[.int .i64 i, .bool (decide (i < l.length) && decide (F i = 0))]) ∧ (∀ t, t < i → F t < 0) ∧ (∀ t, i ≤ t → t < l.length → 0 ≤ F t)) ∧ Below w.heap.size w w' := by
  have HH : Hid (∀ i w1, i < l.length → Below w.heap.size w w1 → Calls Tryz.prog fn #[grpV (xs.getD i default) (l.getD i default), .slice ra rn rc] w1 fun e w' => e = .returned (.int .i64 (F i)) ∧ Below w1.heap.size w1 w') := H
  have M : Hid (∀ a b, a ≤ b → b < l.length → F b < 0 → F a < 0) := hm
  clear H hm
  obtain ⟨n, hn⟩ : ∃ n, l.length = n := ⟨_, rfl⟩
  have HN : Hid (l.length = n) := hn
  rw [hn] at hl HH M ⊢
  clear hn
  go_enter Tryz.func81, Tryz.ntmps81
  go_wp2
  go_loopw [9, 10] (fun s9 s10 wr => ∃ lo hi : Nat, s9 = .int .i64 lo ∧ s10 = .int .i64 hi ∧ lo ≤ hi ∧ hi ≤ n ∧ Below w.heap.size w wr ∧ Hid ((∀ t, t < lo → F t < 0) ∧ (∀ t, hi ≤ t → t < n → 0 ≤ F t))) (fun s9 s10 _ => (intOf s10).toNat - (intOf s9).toNat)
  case atStart => exact ⟨0, n, rfl, rfl, Nat.zero_le _, Nat.le_refl _, Below.refl _ _, (⟨fun t ht => absurd ht (Nat.not_lt_zero _), fun t h1 h2 => by omega⟩ : (∀ t, t < 0 → F t < 0) ∧ (∀ t, n ≤ t → t < n → 0 ≤ F t))⟩
  case round =>
    obtain ⟨lo, hi, rfl, rfl, hlh, hin, hnx, I⟩ := hrel
    by_cases hlt : lo < hi
    · obtain ⟨b, o, e, x1, x2, x3⟩ := ha.cells ((lo + hi) / 2) (by rw [HN.out]; omega)
      subst e
      have q1 := cell_later hnx x1
      have q2 := cell_later hnx x2
      have q3 := cell_later hnx x3
      have KK : Hid (∀ w1, Below wr.heap.size wr w1 → _) := fun w1 hb => HH.out ((lo + hi) / 2) w1 (by omega) (hnx.trans (hb.mono hnx.size))
      unfold grpV at KK
      clear ha x1 x2 x3
      by_cases hy : F ((lo + hi) / 2) < 0
      · go_wp2_with (go_at_fn fn; refine (KK.out _ (Below.refl _ _)).mono ?_; rintro e w' ⟨rfl, hb'⟩)
        go_roundw
        case rel =>
          have I2 : Hid ((∀ t, t < (lo + hi) / 2 + 1 → F t < 0) ∧ (∀ t, hi ≤ t → t < n → 0 ≤ F t)) := ⟨fun t ht => M.out t ((lo + hi) / 2) (by omega) (by omega) hy, I.out.2⟩
          exact ⟨(lo + hi) / 2 + 1, hi, by rw [show ((lo : Int) + (hi : Int)) / 2 + 1 = (((lo + hi) / 2 + 1 : Nat) : Int) by omega], rfl, by omega, hin, hnx.trans (hb'.mono hnx.size), I2⟩
        case measure => simp [intOf]; omega
      · go_wp2_with (go_at_fn fn; refine (KK.out _ (Below.refl _ _)).mono ?_; rintro e w' ⟨rfl, hb'⟩)
        go_roundw
        case rel =>
          have I2 : Hid ((∀ t, t < lo → F t < 0) ∧ (∀ t, (lo + hi) / 2 ≤ t → t < n → 0 ≤ F t)) := ⟨I.out.1, fun t ht htn => Int.not_lt.1 fun h => by have := M.out ((lo + hi) / 2) t ht htn h; omega⟩
          exact ⟨lo, (lo + hi) / 2, rfl, by rw [show ((lo : Int) + (hi : Int)) / 2 = (((lo + hi) / 2 : Nat) : Int) by omega], by omega, by omega, hnx.trans (hb'.mono hnx.size), I2⟩
        case measure => simp [intOf]; omega
    · obtain rfl : hi = lo := by omega
      by_cases hlt2 : hi < n
      · obtain ⟨b, o, e, x1, x2, x3⟩ := ha.cells hi (by rw [HN.out]; omega)
        subst e
        have q1 := cell_later hnx x1
        have q2 := cell_later hnx x2
        have q3 := cell_later hnx x3
        have KK : Hid (∀ w1, Below wr.heap.size wr w1 → _) := fun w1 hb => HH.out hi w1 (by omega) (hnx.trans (hb.mono hnx.size))
        unfold grpV at KK
        clear ha x1 x2 x3
        by_cases hy : F hi = 0
        · have hy' : (F hi == 0) = true := by simpa using hy
          go_wp2_with (go_at_fn fn; refine (KK.out _ (Below.refl _ _)).mono ?_; rintro e w' ⟨rfl, hb'⟩)
          go_ret2
          exact ⟨⟨hi, by omega, by simp [hy, hlt2], I.out.1, I.out.2⟩, hnx.trans (hb'.mono hnx.size)⟩
        · go_wp2_with (go_at_fn fn; refine (KK.out _ (Below.refl _ _)).mono ?_; rintro e w' ⟨rfl, hb'⟩)
          go_ret2
          exact ⟨⟨hi, by omega, by simp [hy, hlt2], I.out.1, I.out.2⟩, hnx.trans (hb'.mono hnx.size)⟩
      · clear ha
        go_wp2
        go_ret2
        exact ⟨⟨hi, by omega, by simp [hlt2], I.out.1, I.out.2⟩, hnx⟩
set_option maxHeartbeats 4000000 in
set_option maxRecDepth 100000 in
theorem searchT_any (fn : FuncId) (eg : ∀ args w, (callFunc fn args).run Tryz.prog w = .ok (.enter fn args) w) (F : Nat → Int) (a : Option Addr) (cap : Nat) (l : List Tal) (tk tn : Int) (ts : ByteArray) (w : World) (hl : l.length < 4611686018427387904) (ha : bagAt w a l)
    (H : ∀ i w1, i < l.length → Below w.heap.size w w1 → Calls Tryz.prog fn #[.agg #[.int .i64 (l.getD i default).1.k, .int .i64 (l.getD i default).1.n, .string (l.getD i default).1.s, .int .i64 (l.getD i default).2], .agg #[.int .i64 tk, .int .i64 tn, .string ts]] w1 fun e w' => e = .returned (.int .i64 (F i)) ∧ Below w1.heap.size w1 w') (hm : ∀ a b, a ≤ b → b < l.length → F b < 0 → F a < 0) :
    Calls Tryz.prog 157 #[.slice a l.length cap, .agg #[.int .i64 tk, .int .i64 tn, .string ts], .func (.func fn) #[] #[]] w fun e w' =>
      (∃ i : Nat, i ≤ l.length ∧ e = .returned (.tuple #[.int .i64 i, .bool (decide (i < l.length) && decide (F i = 0))]) ∧ (∀ t, t < i → F t < 0) ∧ (∀ t, i ≤ t → t < l.length → 0 ≤ F t)) ∧ Below w.heap.size w w' := by
  have HH : Hid (∀ i w1, i < l.length → Below w.heap.size w w1 → Calls Tryz.prog fn #[.agg #[.int .i64 (l.getD i default).1.k, .int .i64 (l.getD i default).1.n, .string (l.getD i default).1.s, .int .i64 (l.getD i default).2], .agg #[.int .i64 tk, .int .i64 tn, .string ts]] w1 fun e w' => e = .returned (.int .i64 (F i)) ∧ Below w1.heap.size w1 w') := H
  have M : Hid (∀ a b, a ≤ b → b < l.length → F b < 0 → F a < 0) := hm
  clear H hm
  obtain ⟨n, hn⟩ : ∃ n, l.length = n := ⟨_, rfl⟩
  have HN : Hid (l.length = n) := hn
  rw [hn] at hl HH M ⊢
  clear hn
  go_enter Tryz.func157, Tryz.ntmps157
  go_wp2
  generalize hV : (World.alloc w _) = V
  have hb0 : Below w.heap.size w V := by rw [← hV]; exact (Below.refl _ _).alloc (Nat.le_refl _) _
  have v0 : V.cell? ⟨w.heap.size, 0, none⟩ = some (.int .i64 tk) := by subst hV; go_simp
  have v1 : V.cell? ⟨w.heap.size, 1, none⟩ = some (.int .i64 tn) := by subst hV; go_simp
  have v2 : V.cell? ⟨w.heap.size, 2, none⟩ = some (.string ts) := by subst hV; go_simp
  clear hV
  go_loopw [9, 10] (fun s9 s10 wr => ∃ lo hi : Nat, s9 = .int .i64 lo ∧ s10 = .int .i64 hi ∧ lo ≤ hi ∧ hi ≤ n ∧ Below V.heap.size V wr ∧ Hid ((∀ t, t < lo → F t < 0) ∧ (∀ t, hi ≤ t → t < n → 0 ≤ F t))) (fun s9 s10 _ => (intOf s10).toNat - (intOf s9).toNat)
  case atStart => exact ⟨0, n, rfl, rfl, Nat.zero_le _, Nat.le_refl _, Below.refl _ _, (⟨fun t ht => absurd ht (Nat.not_lt_zero _), fun t h1 h2 => by omega⟩ : (∀ t, t < 0 → F t < 0) ∧ (∀ t, n ≤ t → t < n → 0 ≤ F t))⟩
  case round =>
    obtain ⟨lo, hi, rfl, rfl, hlh, hin, hnx, I⟩ := hrel
    have r0 := cell_later hnx v0
    have r1 := cell_later hnx v1
    have r2 := cell_later hnx v2
    have hnw : Below w.heap.size w wr := hb0.trans (hnx.mono hb0.size)
    have lw : w.heap.size < wr.heap.size := World.block_lt_of_cell? _ _ r0
    by_cases hlt : lo < hi
    · obtain ⟨m, hm⟩ : ∃ m, (lo + hi) / 2 = m := ⟨_, rfl⟩
      have hme : ((lo : Int) + (hi : Int)) / 2 = (m : Int) := by omega
      have m1 : m < hi := by omega
      have m2 : lo ≤ m := by omega
      obtain ⟨b, o, e, x1, x2, x3, x4⟩ := ha m (by rw [HN.out]; omega)
      subst e
      have q1 := cell_later hnw x1
      have q2 := cell_later hnw x2
      have q3 := cell_later hnw x3
      have q4 := cell_later hnw x4
      have KK : Hid (∀ w1, Below wr.heap.size wr w1 → _) := fun w1 hb => HH.out m w1 (by omega) (hnw.trans (hb.mono hnw.size))
      obtain ⟨⟨⟨xk, xn, xs⟩, xm⟩, hz⟩ : ∃ z, l.getD m default = z := ⟨_, rfl⟩
      rw [hz] at q1 q2 q3 q4 KK
      dsimp only at q1 q2 q3 q4 KK
      clear ha x1 x2 x3 x4 hz
      have i1 : (0 : Int) ≤ (m : Int) := by omega
      have i2 : (m : Int) < (n : Int) := by omega
      by_cases hy : F m < 0
      · go_wp2
        go_region_held3 (fun w' => w'.cell? ⟨b, o + m * 4, none⟩ = some (.int .i64 xk) ∧ w'.cell? ⟨b, o + m * 4 + 1, none⟩ = some (.int .i64 xn) ∧ w'.cell? ⟨b, o + m * 4 + 2, none⟩ = some (.string xs) ∧ w'.cell? ⟨b, o + m * 4 + 3, none⟩ = some (.int .i64 xm) ∧ w'.cell? ⟨w.heap.size, 0, none⟩ = some (.int .i64 tk) ∧ w'.cell? ⟨w.heap.size, 1, none⟩ = some (.int .i64 tn) ∧ w'.cell? ⟨w.heap.size, 2, none⟩ = some (.string ts)) (first | exact ⟨cell_later hQ1 q1, cell_later hQ1 q2, cell_later hQ1 q3, cell_later hQ1 q4, cell_later hQ1 r0, cell_later hQ1 r1, cell_later hQ1 r2⟩ | go_keep)
        (first | (go_at_fn fn; refine (KK.out _ (Below.refl _ _).drew).mono ?_; rintro e w' ⟨rfl, hb'⟩; have hQ1 : Below wr.heap.size wr w' := (Below.refl _ _).drew.trans hb'))
        all_goals
          go_wp2
          go_roundw
          case rel =>
            have I2 : Hid ((∀ t, t < m + 1 → F t < 0) ∧ (∀ t, hi ≤ t → t < n → 0 ≤ F t)) := ⟨fun t ht => M.out t m (by omega) (by omega) hy, I.out.2⟩
            exact ⟨m + 1, hi, by go_num, rfl, by omega, hin, hnx.trans (hQ1.mono hnx.size), I2⟩
          case measure => simp [intOf]; omega
      · go_wp2
        go_region_held3 (fun w' => w'.cell? ⟨b, o + m * 4, none⟩ = some (.int .i64 xk) ∧ w'.cell? ⟨b, o + m * 4 + 1, none⟩ = some (.int .i64 xn) ∧ w'.cell? ⟨b, o + m * 4 + 2, none⟩ = some (.string xs) ∧ w'.cell? ⟨b, o + m * 4 + 3, none⟩ = some (.int .i64 xm) ∧ w'.cell? ⟨w.heap.size, 0, none⟩ = some (.int .i64 tk) ∧ w'.cell? ⟨w.heap.size, 1, none⟩ = some (.int .i64 tn) ∧ w'.cell? ⟨w.heap.size, 2, none⟩ = some (.string ts)) (first | exact ⟨cell_later hQ1 q1, cell_later hQ1 q2, cell_later hQ1 q3, cell_later hQ1 q4, cell_later hQ1 r0, cell_later hQ1 r1, cell_later hQ1 r2⟩ | go_keep)
        (first | (go_at_fn fn; refine (KK.out _ (Below.refl _ _).drew).mono ?_; rintro e w' ⟨rfl, hb'⟩; have hQ1 : Below wr.heap.size wr w' := (Below.refl _ _).drew.trans hb'))
        all_goals
          go_wp2
          go_roundw
          case rel =>
            have I2 : Hid ((∀ t, t < lo → F t < 0) ∧ (∀ t, m ≤ t → t < n → 0 ≤ F t)) := ⟨I.out.1, fun t ht htn => Int.not_lt.1 fun h => by have := M.out m t ht htn h; omega⟩
            exact ⟨lo, m, rfl, rfl, by omega, by omega, hnx.trans (hQ1.mono hnx.size), I2⟩
          case measure => simp [intOf]; omega
    · obtain rfl : hi = lo := by omega
      by_cases hlt2 : hi < n
      · obtain ⟨b, o, e, x1, x2, x3, x4⟩ := ha hi (by rw [HN.out]; omega)
        subst e
        have q1 := cell_later hnw x1
        have q2 := cell_later hnw x2
        have q3 := cell_later hnw x3
        have q4 := cell_later hnw x4
        have KK : Hid (∀ w1, Below wr.heap.size wr w1 → _) := fun w1 hb => HH.out hi w1 (by omega) (hnw.trans (hb.mono hnw.size))
        obtain ⟨⟨⟨xk, xn, xs⟩, xm⟩, hz⟩ : ∃ z, l.getD hi default = z := ⟨_, rfl⟩
        rw [hz] at q1 q2 q3 q4 KK
        dsimp only at q1 q2 q3 q4 KK
        clear ha x1 x2 x3 x4 hz
        have i1 : (0 : Int) ≤ (hi : Int) := by omega
        have i2 : (hi : Int) < (n : Int) := by omega
        by_cases hy : F hi = 0
        · have hy' : (F hi == 0) = true := by simpa using hy
          go_wp2
          go_region_held3 (fun w' => w'.cell? ⟨b, o + hi * 4, none⟩ = some (.int .i64 xk) ∧ w'.cell? ⟨b, o + hi * 4 + 1, none⟩ = some (.int .i64 xn) ∧ w'.cell? ⟨b, o + hi * 4 + 2, none⟩ = some (.string xs) ∧ w'.cell? ⟨b, o + hi * 4 + 3, none⟩ = some (.int .i64 xm) ∧ w'.cell? ⟨w.heap.size, 0, none⟩ = some (.int .i64 tk) ∧ w'.cell? ⟨w.heap.size, 1, none⟩ = some (.int .i64 tn) ∧ w'.cell? ⟨w.heap.size, 2, none⟩ = some (.string ts)) (first | exact ⟨cell_later hQ1 q1, cell_later hQ1 q2, cell_later hQ1 q3, cell_later hQ1 q4, cell_later hQ1 r0, cell_later hQ1 r1, cell_later hQ1 r2⟩ | go_keep)
        (first | (go_at_fn fn; refine (KK.out _ (Below.refl _ _).drew).mono ?_; rintro e w' ⟨rfl, hb'⟩; have hQ1 : Below wr.heap.size wr w' := (Below.refl _ _).drew.trans hb'))
          all_goals
            go_wp2
            go_ret2
            exact ⟨⟨hi, by omega, by simp [hy, hlt2], I.out.1, I.out.2⟩, hnw.trans (hQ1.mono hnw.size)⟩
        · have hy' : (F hi == 0) = false := by simpa using hy
          go_wp2
          go_region_held3 (fun w' => w'.cell? ⟨b, o + hi * 4, none⟩ = some (.int .i64 xk) ∧ w'.cell? ⟨b, o + hi * 4 + 1, none⟩ = some (.int .i64 xn) ∧ w'.cell? ⟨b, o + hi * 4 + 2, none⟩ = some (.string xs) ∧ w'.cell? ⟨b, o + hi * 4 + 3, none⟩ = some (.int .i64 xm) ∧ w'.cell? ⟨w.heap.size, 0, none⟩ = some (.int .i64 tk) ∧ w'.cell? ⟨w.heap.size, 1, none⟩ = some (.int .i64 tn) ∧ w'.cell? ⟨w.heap.size, 2, none⟩ = some (.string ts)) (first | exact ⟨cell_later hQ1 q1, cell_later hQ1 q2, cell_later hQ1 q3, cell_later hQ1 q4, cell_later hQ1 r0, cell_later hQ1 r1, cell_later hQ1 r2⟩ | go_keep)
        (first | (go_at_fn fn; refine (KK.out _ (Below.refl _ _).drew).mono ?_; rintro e w' ⟨rfl, hb'⟩; have hQ1 : Below wr.heap.size wr w' := (Below.refl _ _).drew.trans hb'))
          all_goals
            go_wp2
            go_ret2
            exact ⟨⟨hi, by omega, by simp [hy, hlt2], I.out.1, I.out.2⟩, hnw.trans (hQ1.mono hnw.size)⟩
      · clear ha
        go_wp2
        go_quiet (fail)
        go_wp2
        go_ret2
        exact ⟨⟨hi, by omega, by simp [hlt2], I.out.1, I.out.2⟩, below_drewN hnw _⟩
end Go.Proofs.YtbfbgdinhiglaaaGreat.gr
