/- lists.Every at groups and at bags, with whatever function it is handed. -/
import Derived.Test.YtbfbgdinhiglaaaGreatGrpPure
namespace Go.Proofs.YtbfbgdinhiglaaaGreat.gr
open Go.ChangeShapes Go.WideShapes Go.ChangeAt Go.RowKit
open vl pl bt
set_option linter.unusedVariables false
set_option linter.unusedSimpArgs false
set_option maxHeartbeats 1000000 in
theorem everyGrp_any (fn : FuncId) (eg : ∀ args w, (callFunc fn args).run Tryz.prog w = .ok (.enter fn args) w) (caps : Array Value) (P : Nat → Bool) (a : Option Addr) (cap : Nat) (xs : List GX) (l : List Grp) (w : World) (hl : l.length ≤ 9223372036854775807) (ha : gsAt w a xs l)
    (H : ∀ i w1, i < l.length → Below w.heap.size w w1 → Calls Tryz.prog fn (#[.int .i64 (i : Nat), (grpV (xs.getD i default) (l.getD i default))] ++ caps) w1 fun e w' => e = .returned (.bool (P i)) ∧ Below w1.heap.size w1 w') :
    Calls Tryz.prog 73 #[.slice a l.length cap, .func (.func fn) #[] caps] w fun e w' => e = .returned (.bool (allB l.length P)) ∧ Below w.heap.size w w' := by
  have HH : Hid (∀ i w1, i < l.length → Below w.heap.size w w1 → Calls Tryz.prog fn (#[.int .i64 (i : Nat), (grpV (xs.getD i default) (l.getD i default))] ++ caps) w1 fun e w' => e = .returned (.bool (P i)) ∧ Below w1.heap.size w1 w') := H
  clear H
  obtain ⟨n, hn⟩ : ∃ n, l.length = n := ⟨_, rfl⟩
  have HN : Hid (l.length = n) := hn
  rw [hn] at hl ⊢
  clear hn
  go_enter Tryz.func73, Tryz.ntmps73
  go_wp2
  go_loopw [9] (fun i wr => ∃ k : Nat, k ≤ n ∧ i = .int .i64 k ∧ Below w.heap.size w wr ∧ ∀ i, i < k → P i = true) (fun i _ => n - (intOf i).toNat)
  case atStart => exact ⟨0, Nat.zero_le _, rfl, Below.refl _ _, fun i hi => absurd hi (Nat.not_lt_zero i)⟩
  case round =>
    obtain ⟨k, hk, rfl, hnx, hall⟩ := hrel
    have HA : Hid (∀ i, i < k → P i = true) := hall
    clear hall
    by_cases hlt : k < n
    · obtain ⟨b, o, e, x1, x2, x3⟩ := ha.cells k (by rw [HN.out]; exact hlt)
      subst e
      have q1 := cell_later hnx x1
      have q2 := cell_later hnx x2
      have q3 := cell_later hnx x3
      clear x1 x2 x3 ha
      have i1 : (0 : Int) ≤ (k : Int) := by omega
      have i2 : (k : Int) < (n : Int) := by omega
      have KK : Hid (∀ w1, Below wr.heap.size wr w1 → Calls Tryz.prog fn (#[.int .i64 (k : Nat), (grpV (xs.getD k default) (l.getD k default))] ++ caps) w1 fun e w' => e = .returned (.bool (P k)) ∧ Below w1.heap.size w1 w') := fun w1 hb => HH.out k w1 (by rw [HN.out]; exact hlt) (hnx.trans (hb.mono hnx.size))
      unfold grpV at KK
      obtain ⟨z, hz⟩ : ∃ z, l.getD k default = z := ⟨_, rfl⟩
      rw [hz] at q1 q2 q3 KK
      obtain ⟨y, hy⟩ : ∃ z, xs.getD k default = z := ⟨_, rfl⟩
      rw [hy] at q1 q3 KK
      obtain ⟨v1, hv1⟩ : ∃ v, Value.slice y.r z.row.length y.rc = v := ⟨_, rfl⟩
      obtain ⟨v3, hv3⟩ : ∃ v, Value.slice y.b z.bags.length y.bc = v := ⟨_, rfl⟩
      have o1 : v1.oneCell' = true := by rw [← hv1]; rfl
      have o3 : v3.oneCell' = true := by rw [← hv3]; rfl
      obtain ⟨v2, hv2⟩ : ∃ v, z.n = v := ⟨_, rfl⟩
      obtain ⟨y1, hy1⟩ : ∃ v, y.r = v := ⟨_, rfl⟩
      obtain ⟨y2, hy2⟩ : ∃ v, z.row.length = v := ⟨_, rfl⟩
      obtain ⟨y3, hy3⟩ : ∃ v, y.rc = v := ⟨_, rfl⟩
      obtain ⟨y4, hy4⟩ : ∃ v, y.b = v := ⟨_, rfl⟩
      obtain ⟨y5, hy5⟩ : ∃ v, z.bags.length = v := ⟨_, rfl⟩
      obtain ⟨y6, hy6⟩ : ∃ v, y.bc = v := ⟨_, rfl⟩
      rw [hy1, hy2, hy3] at q1
      rw [hv2] at q2
      rw [hy4, hy5, hy6] at q3
      rw [hy1, hy2, hy3, hv2, hy4, hy5, hy6] at KK
      clear hz hy hv1 hv2 hv3 o1 o3 hy1 hy2 hy3 hy4 hy5 hy6
      have hsz := hnx.size
      cases hp : P k with
      | true =>
        rw [hp] at KK
        go_wp2_with (go_at_fn fn; refine (KK.out _ ((Below.refl _ _).alloc (Nat.le_refl _) _)).mono ?_; rintro e w1 ⟨rfl, hb1⟩; have hbx := (hnx.alloc hsz _).trans (hb1.mono (by simp; omega)))
        go_roundw
        case rel => exact ⟨k + 1, by omega, by go_num, hbx, fun i hi => by
          rcases Nat.lt_succ_iff_lt_or_eq.1 hi with h | h
          · exact HA.out i h
          · rw [h]; exact hp⟩
        case measure => simp [intOf]; omega
      | false =>
        have HE : Hid (allB n P = false) := allB_no hlt hp
        rw [hp] at KK
        go_wp2_with (go_at_fn fn; refine (KK.out _ ((Below.refl _ _).alloc (Nat.le_refl _) _)).mono ?_; rintro e w1 ⟨rfl, hb1⟩; have hbx := (hnx.alloc hsz _).trans (hb1.mono (by simp; omega)))
        go_ret
        exact ⟨ret_bool HE.out.symm, hbx⟩
    · have HE : Hid (allB n P = true) := allB_iff.2 (fun i hi => HA.out i (by omega))
      go_wp2
      go_ret
      exact ⟨ret_bool HE.out.symm, hnx⟩
set_option maxHeartbeats 1000000 in
theorem everyBag_any (fn : FuncId) (eg : ∀ args w, (callFunc fn args).run Tryz.prog w = .ok (.enter fn args) w) (caps : Array Value) (P : Nat → Bool) (a : Option Addr) (cap : Nat) (l : List (Option Addr × Nat × Nat)) (w : World) (hl : l.length ≤ 9223372036854775807) (ha : hdrsAt w a l)
    (H : ∀ i w1, i < l.length → Below w.heap.size w w1 → Calls Tryz.prog fn (#[.int .i64 (i : Nat), .slice (l.getD i (none, 0, 0)).1 (l.getD i (none, 0, 0)).2.1 (l.getD i (none, 0, 0)).2.2] ++ caps) w1 fun e w' => e = .returned (.bool (P i)) ∧ Below w1.heap.size w1 w') :
    Calls Tryz.prog 125 #[.slice a l.length cap, .func (.func fn) #[] caps] w fun e w' => e = .returned (.bool (allB l.length P)) ∧ Below w.heap.size w w' := by
  have HH : Hid (∀ i w1, i < l.length → Below w.heap.size w w1 → Calls Tryz.prog fn (#[.int .i64 (i : Nat), .slice (l.getD i (none, 0, 0)).1 (l.getD i (none, 0, 0)).2.1 (l.getD i (none, 0, 0)).2.2] ++ caps) w1 fun e w' => e = .returned (.bool (P i)) ∧ Below w1.heap.size w1 w') := H
  clear H
  obtain ⟨n, hn⟩ : ∃ n, l.length = n := ⟨_, rfl⟩
  have HN : Hid (l.length = n) := hn
  rw [hn] at hl ⊢
  clear hn
  go_enter Tryz.func125, Tryz.ntmps125
  go_wp2
  go_loopw [9] (fun i wr => ∃ k : Nat, k ≤ n ∧ i = .int .i64 k ∧ Below w.heap.size w wr ∧ ∀ i, i < k → P i = true) (fun i _ => n - (intOf i).toNat)
  case atStart => exact ⟨0, Nat.zero_le _, rfl, Below.refl _ _, fun i hi => absurd hi (Nat.not_lt_zero i)⟩
  case round =>
    obtain ⟨k, hk, rfl, hnx, hall⟩ := hrel
    have HA : Hid (∀ i, i < k → P i = true) := hall
    clear hall
    by_cases hlt : k < n
    · obtain ⟨b, o, e, x1⟩ := ha k (by rw [HN.out]; exact hlt)
      subst e
      have q1 := cell_later hnx x1
      clear x1 ha
      have i1 : (0 : Int) ≤ (k : Int) := by omega
      have i2 : (k : Int) < (n : Int) := by omega
      have KK : Hid (Calls Tryz.prog fn (#[.int .i64 (k : Nat), .slice (l.getD k (none, 0, 0)).1 (l.getD k (none, 0, 0)).2.1 (l.getD k (none, 0, 0)).2.2] ++ caps) wr fun e w' => e = .returned (.bool (P k)) ∧ Below wr.heap.size wr w') := HH.out k wr (by rw [HN.out]; exact hlt) hnx
      obtain ⟨⟨z1, z2, z3⟩, hz⟩ : ∃ z, l.getD k (none, 0, 0) = z := ⟨_, rfl⟩
      rw [hz] at q1 KK
      dsimp only at q1 KK
      clear hz
      have hsz := hnx.size
      cases hp : P k with
      | true =>
        rw [hp] at KK
        go_wp2_with (go_at_fn fn; refine KK.out.mono ?_; rintro e w1 ⟨rfl, hb1⟩)
        go_roundw
        case rel => exact ⟨k + 1, by omega, by go_num, hnx.trans (hb1.mono hsz), fun i hi => by
          rcases Nat.lt_succ_iff_lt_or_eq.1 hi with h | h
          · exact HA.out i h
          · rw [h]; exact hp⟩
        case measure => simp [intOf]; omega
      | false =>
        have HE : Hid (allB n P = false) := allB_no hlt hp
        rw [hp] at KK
        go_wp2_with (go_at_fn fn; refine KK.out.mono ?_; rintro e w1 ⟨rfl, hb1⟩)
        go_ret
        exact ⟨ret_bool HE.out.symm, hnx.trans (hb1.mono hsz)⟩
    · have HE : Hid (allB n P = true) := allB_iff.2 (fun i hi => HA.out i (by omega))
      go_wp2
      go_ret
      exact ⟨ret_bool HE.out.symm, hnx⟩
end Go.Proofs.YtbfbgdinhiglaaaGreat.gr
