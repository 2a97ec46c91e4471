/- CompareRows, CompareFunc and Rows answer the order of two rows. -/
import Derived.Test.YtkjiaeolodemlafValRows
namespace Go.Proofs.Ytkjiaeolodemlaf.vl
open Go.ChangeShapes Go.WideShapes Go.ChangeAt Go.RowKit
set_option linter.unusedVariables false
set_option linter.unusedSimpArgs false

def cmpC (a b : Cel) : Int := cmpV a.k a.n a.s b.k b.n b.s
def cmpRows : List Cel → List Cel → Int
  | [], [] => 0
  | [], _ :: _ => -1
  | _ :: _, [] => 1
  | a :: x, b :: y => if cmpC a b = 0 then cmpRows x y else cmpC a b

theorem cmpRows_drop (r1 r2 : List Cel) (k : Nat) (h1 : k ≤ r1.length) (h2 : k ≤ r2.length) (h : ∀ i, i < k → cmpC (r1.getD i default) (r2.getD i default) = 0) :
    cmpRows r1 r2 = cmpRows (r1.drop k) (r2.drop k) := by
  induction k generalizing r1 r2 with
  | zero => rfl
  | succ k ih =>
    match r1, r2, h1, h2 with
    | a :: x, b :: y, h1, h2 =>
      have h0 : cmpC a b = 0 := h 0 (by omega)
      rw [cmpRows, if_pos h0, List.drop_succ_cons, List.drop_succ_cons]
      exact ih x y (by simpa using h1) (by simpa using h2) (fun i hi => h (i + 1) (by omega))
theorem drop_getD (r : List Cel) (k : Nat) (h : k < r.length) : r.drop k = r.getD k default :: r.drop (k + 1) := by
  rw [List.drop_eq_getElem_cons h]; simp [List.getD_eq_getElem?_getD, h]
theorem cmpRows_at (r1 r2 : List Cel) (k : Nat) (h1 : k < r1.length) (h2 : k < r2.length) (h : ∀ i, i < k → cmpC (r1.getD i default) (r2.getD i default) = 0)
    (hne : cmpC (r1.getD k default) (r2.getD k default) ≠ 0) : cmpRows r1 r2 = cmpC (r1.getD k default) (r2.getD k default) := by
  rw [cmpRows_drop r1 r2 k (by omega) (by omega) h, drop_getD r1 k h1, drop_getD r2 k h2, cmpRows, if_neg hne]
theorem cmpRows_end (r1 r2 : List Cel) (k : Nat) (h1 : k ≤ r1.length) (h2 : k ≤ r2.length) (h : ∀ i, i < k → cmpC (r1.getD i default) (r2.getD i default) = 0)
    (he : k = r1.length ∨ k = r2.length) : cmpRows r1 r2 = ordI r1.length r2.length := by
  rw [cmpRows_drop r1 r2 k h1 h2 h]
  unfold ordI
  by_cases e1 : k = r1.length
  · rw [List.drop_of_length_le (show r1.length ≤ k by omega)]
    by_cases e2 : k = r2.length
    · rw [List.drop_of_length_le (show r2.length ≤ k by omega), cmpRows, if_neg (by omega), if_neg (by omega)]
    · rw [drop_getD r2 k (by omega), cmpRows, if_pos (by omega)]
  · have e2 : k = r2.length := by omega
    rw [List.drop_of_length_le (show r2.length ≤ k by omega), drop_getD r1 k (by omega), cmpRows, if_neg (by omega), if_pos (by omega)]

attribute [local go_sem ↓] Go.wp_at_zero Go.wp_at_succ
set_option maxRecDepth 100000 in
set_option maxHeartbeats 4000000 in
theorem rrows_any (a1 a2 : Option Addr) (c1 c2 : Nat) (r1 r2 : List Cel) (w : World) (h1 : rowAt w a1 r1) (h2 : rowAt w a2 r2) (l1 : r1.length ≤ 9223372036854775807) (l2 : r2.length ≤ 9223372036854775807) :
    Calls Try.prog 25 #[.slice a1 r1.length c1, .slice a2 r2.length c2] w fun e w' => e = .returned (.int .i64 (cmpRows r1 r2)) ∧ Below w.heap.size w w' := by
  obtain ⟨n1, hn1⟩ : ∃ n, r1.length = n := ⟨_, rfl⟩
  obtain ⟨n2, hn2⟩ : ∃ n, r2.length = n := ⟨_, rfl⟩
  have HR1 : Hid (r1.length = n1) := hn1
  have HR2 : Hid (r2.length = n2) := hn2
  rw [hn1] at l1 ⊢
  rw [hn2] at l2 ⊢
  clear hn1 hn2
  go_enter Try.func25, Try.ntmps25
  go_wp2
  go_loopw [5] (fun i wr => ∃ k : Nat, k ≤ n1 ∧ k ≤ n2 ∧ i = .int .i64 k ∧ Below w.heap.size w wr ∧ (∀ i, i < k → cmpC (r1.getD i default) (r2.getD i default) = 0)) (fun i _ => n1 - (intOf i).toNat)
  case atStart => exact ⟨0, Nat.zero_le _, Nat.zero_le _, rfl, Below.refl _ _, fun i hi => absurd hi (Nat.not_lt_zero i)⟩
  case round =>
    obtain ⟨k, hk1, hk2, rfl, hnx, hall⟩ := hrel
    have HA : Hid (∀ i, i < k → cmpC (r1.getD i default) (r2.getD i default) = 0) := hall
    clear hall
    by_cases hlt : k < n1
    · by_cases hlt2 : k < n2
      · obtain ⟨b1, o1, e1, x1, x2, x3⟩ := h1 k (by rw [HR1.out]; exact hlt)
        obtain ⟨b2, o2, e2, y1, y2, y3⟩ := h2 k (by rw [HR2.out]; exact hlt2)
        subst e1 e2
        have q1 := cell_later hnx x1
        have q2 := cell_later hnx x2
        have q3 := cell_later hnx x3
        have p1 := cell_later hnx y1
        have p2 := cell_later hnx y2
        have p3 := cell_later hnx y3
        clear x1 x2 x3 y1 y2 y3 h1 h2
        obtain ⟨⟨ka, na, sa⟩, hca⟩ : ∃ c, r1.getD k default = c := ⟨_, rfl⟩
        obtain ⟨⟨kb, nb, sb⟩, hcb⟩ : ∃ c, r2.getD k default = c := ⟨_, rfl⟩
        rw [hca] at q1 q2 q3
        rw [hcb] at p1 p2 p3
        have HCA : Hid (r1.getD k default = ⟨ka, na, sa⟩) := hca
        have HCB : Hid (r2.getD k default = ⟨kb, nb, sb⟩) := hcb
        clear hca hcb
        dsimp only at q1 q2 q3 p1 p2 p3
        have i1 : (0 : Int) ≤ (k : Int) := by omega
        have i2 : (k : Int) < (n1 : Int) := by omega
        have i3 : (k : Int) < (n2 : Int) := by omega
        by_cases hc : (cmpV ka na sa kb nb sb == 0) = true
        · have hz : Hid (cmpC (r1.getD k default) (r2.getD k default) = 0) := by
            show cmpC (r1.getD k default) (r2.getD k default) = 0
            rw [HCA.out, HCB.out]; exact (show cmpV ka na sa kb nb sb = 0 by simpa using hc)
          go_wp2
          go_region_held3 (fun w' => w'.cell? ⟨b1, o1 + k * 3, none⟩ = some (.int .i64 ka) ∧ w'.cell? ⟨b1, o1 + k * 3 + 1, none⟩ = some (.int .i64 na) ∧ w'.cell? ⟨b1, o1 + k * 3 + 1 + 1, none⟩ = some (.string sa) ∧ w'.cell? ⟨b2, o2 + k * 3, none⟩ = some (.int .i64 kb) ∧ w'.cell? ⟨b2, o2 + k * 3 + 1, none⟩ = some (.int .i64 nb) ∧ w'.cell? ⟨b2, o2 + k * 3 + 1 + 1, none⟩ = some (.string sb)) (first | go_keep | exact ⟨cell_later hb1 q1, cell_later hb1 q2, cell_later hb1 q3, cell_later hb1 p1, cell_later hb1 p2, cell_later hb1 p3⟩)
            (first | (go_at_call 43; refine (rcompare_any _ _ _ _ _ _ _).mono ?_; rintro e w1 ⟨rfl, hb1⟩))
          all_goals
            go_wp2
            go_roundw
            case rel => exact ⟨k + 1, by omega, by omega, by go_num, hnx.drew.trans (hb1.mono hnx.size), fun i hi => by
              rcases Nat.lt_succ_iff_lt_or_eq.1 hi with h | h
              · exact HA.out i h
              · rw [h]; exact hz.out⟩
            case measure => simp [intOf]; omega
        · have hz : Hid (cmpRows r1 r2 = cmpV ka na sa kb nb sb) := by
            show cmpRows r1 r2 = cmpV ka na sa kb nb sb
            rw [cmpRows_at r1 r2 k (by rw [HR1.out]; exact hlt) (by rw [HR2.out]; exact hlt2) HA.out (by rw [HCA.out, HCB.out]; exact (show ¬ cmpV ka na sa kb nb sb = 0 by simpa using hc)), HCA.out, HCB.out]
            rfl
          have hc' : (cmpV ka na sa kb nb sb == 0) = false := by simpa using hc
          go_wp2
          go_region_held3 (fun w' => w'.cell? ⟨b1, o1 + k * 3, none⟩ = some (.int .i64 ka) ∧ w'.cell? ⟨b1, o1 + k * 3 + 1, none⟩ = some (.int .i64 na) ∧ w'.cell? ⟨b1, o1 + k * 3 + 1 + 1, none⟩ = some (.string sa) ∧ w'.cell? ⟨b2, o2 + k * 3, none⟩ = some (.int .i64 kb) ∧ w'.cell? ⟨b2, o2 + k * 3 + 1, none⟩ = some (.int .i64 nb) ∧ w'.cell? ⟨b2, o2 + k * 3 + 1 + 1, none⟩ = some (.string sb)) (first | go_keep | exact ⟨cell_later hb1 q1, cell_later hb1 q2, cell_later hb1 q3, cell_later hb1 p1, cell_later hb1 p2, cell_later hb1 p3⟩)
            (first | (go_at_call 43; refine (rcompare_any _ _ _ _ _ _ _).mono ?_; rintro e w1 ⟨rfl, hb1⟩))
          all_goals
            go_wp2
            go_ret
            exact ⟨ret_int (by rw [hz.out]), hnx.drew.trans (hb1.mono hnx.size)⟩
      · have hz : Hid (cmpRows r1 r2 = ordI n1 n2) := by
          show cmpRows r1 r2 = ordI n1 n2
          rw [cmpRows_end r1 r2 k (by rw [HR1.out]; exact hk1) (by rw [HR2.out]; exact hk2) HA.out (by rw [HR1.out, HR2.out]; omega), HR1.out, HR2.out]
        have hd : decide ((k : Int) < (n2 : Int)) = false := decide_eq_false (by omega)
        go_wp2_with (go_at_call 44; refine (order_any _ _ _).mono ?_; rintro e w' ⟨rfl, hw⟩; subst hw)
        go_ret
        exact ⟨ret_int (by rw [hz.out]), hnx⟩
    · have hz : Hid (cmpRows r1 r2 = ordI n1 n2) := by
        show cmpRows r1 r2 = ordI n1 n2
        rw [cmpRows_end r1 r2 k (by rw [HR1.out]; exact hk1) (by rw [HR2.out]; exact hk2) HA.out (by rw [HR1.out, HR2.out]; omega), HR1.out, HR2.out]
      have hd : decide ((k : Int) < (n1 : Int)) = false := decide_eq_false (by omega)
      go_wp2_with (go_at_call 44; refine (order_any _ _ _).mono ?_; rintro e w' ⟨rfl, hw⟩; subst hw)
      go_ret
      exact ⟨ret_int (by rw [hz.out]), hnx⟩

set_option maxRecDepth 100000 in
set_option maxHeartbeats 4000000 in
theorem cmpFunc_any (a1 a2 : Option Addr) (c1 c2 : Nat) (r1 r2 : List Cel) (w : World) (h1 : rowAt w a1 r1) (h2 : rowAt w a2 r2) (l1 : r1.length ≤ 9223372036854775807) (l2 : r2.length ≤ 9223372036854775807) :
    Calls Try.prog 52 #[.slice a1 r1.length c1, .slice a2 r2.length c2, .func (.func 53) #[] #[]] w fun e w' => e = .returned (.int .i64 (cmpRows r1 r2)) ∧ Below w.heap.size w w' := by
  obtain ⟨n1, hn1⟩ : ∃ n, r1.length = n := ⟨_, rfl⟩
  obtain ⟨n2, hn2⟩ : ∃ n, r2.length = n := ⟨_, rfl⟩
  have HR1 : Hid (r1.length = n1) := hn1
  have HR2 : Hid (r2.length = n2) := hn2
  rw [hn1] at l1 ⊢
  rw [hn2] at l2 ⊢
  clear hn1 hn2
  go_enter Try.func52, Try.ntmps52
  go_wp2
  go_loopw [13] (fun i wr => ∃ k : Nat, k ≤ n1 ∧ k ≤ n2 ∧ i = .int .i64 k ∧ Below w.heap.size w wr ∧ (∀ i, i < k → cmpC (r1.getD i default) (r2.getD i default) = 0)) (fun i _ => n1 - (intOf i).toNat)
  case atStart => exact ⟨0, Nat.zero_le _, Nat.zero_le _, rfl, Below.refl _ _, fun i hi => absurd hi (Nat.not_lt_zero i)⟩
  case round =>
    obtain ⟨k, hk1, hk2, rfl, hnx, hall⟩ := hrel
    have HA : Hid (∀ i, i < k → cmpC (r1.getD i default) (r2.getD i default) = 0) := hall
    clear hall
    by_cases hlt : k < n1
    · obtain ⟨b1, o1, e1, x1, x2, x3⟩ := h1 k (by rw [HR1.out]; exact hlt)
      subst e1
      have q1 := cell_later hnx x1
      have q2 := cell_later hnx x2
      have q3 := cell_later hnx x3
      clear x1 x2 x3 h1
      obtain ⟨⟨ka, na, sa⟩, hca⟩ : ∃ c, r1.getD k default = c := ⟨_, rfl⟩
      rw [hca] at q1 q2 q3
      have HCA : Hid (r1.getD k default = ⟨ka, na, sa⟩) := hca
      clear hca
      dsimp only at q1 q2 q3
      have i1 : (0 : Int) ≤ (k : Int) := by omega
      have i2 : (k : Int) < (n1 : Int) := by omega
      have j1 := World.block_lt_of_cell? _ _ q1
      by_cases hlt2 : k < n2
      · obtain ⟨b2, o2, e2, y1, y2, y3⟩ := h2 k (by rw [HR2.out]; exact hlt2)
        subst e2
        have p1 := cell_later hnx y1
        have p2 := cell_later hnx y2
        have p3 := cell_later hnx y3
        clear y1 y2 y3 h2
        obtain ⟨⟨kb, nb, sb⟩, hcb⟩ : ∃ c, r2.getD k default = c := ⟨_, rfl⟩
        rw [hcb] at p1 p2 p3
        have HCB : Hid (r2.getD k default = ⟨kb, nb, sb⟩) := hcb
        clear hcb
        dsimp only at p1 p2 p3
        have j2 := World.block_lt_of_cell? _ _ p1
        have i3 : (k : Int) < (n2 : Int) := by omega
        by_cases hc : (cmpV ka na sa kb nb sb == 0) = true
        · have hz : Hid (cmpC (r1.getD k default) (r2.getD k default) = 0) := by
            show cmpC (r1.getD k default) (r2.getD k default) = 0
            rw [HCA.out, HCB.out]; exact (show cmpV ka na sa kb nb sb = 0 by simpa using hc)
          go_wp2_with (go_at_call 53; refine (compare_any _ _ _ _ _ _ _).mono ?_; rintro e w1 ⟨rfl, hb1⟩)
          go_roundw
          case rel => exact ⟨k + 1, by omega, by omega, by go_num, ((hnx.alloc hnx.size _).alloc (by have := hnx.size; simp; omega) _).trans (hb1.mono (by have := hnx.size; simp; omega)), fun i hi => by
              rcases Nat.lt_succ_iff_lt_or_eq.1 hi with h | h
              · exact HA.out i h
              · rw [h]; exact hz.out⟩
          case measure => simp [intOf]; omega
        · have hz : Hid (cmpRows r1 r2 = cmpV ka na sa kb nb sb) := by
            show cmpRows r1 r2 = cmpV ka na sa kb nb sb
            rw [cmpRows_at r1 r2 k (by rw [HR1.out]; exact hlt) (by rw [HR2.out]; exact hlt2) HA.out (by rw [HCA.out, HCB.out]; exact (show ¬ cmpV ka na sa kb nb sb = 0 by simpa using hc)), HCA.out, HCB.out]
            rfl
          have hc' : (cmpV ka na sa kb nb sb == 0) = false := by simpa using hc
          go_wp2_with (go_at_call 53; refine (compare_any _ _ _ _ _ _ _).mono ?_; rintro e w1 ⟨rfl, hb1⟩)
          go_ret
          exact ⟨ret_int (by rw [hz.out]), ((hnx.alloc hnx.size _).alloc (by have := hnx.size; simp; omega) _).trans (hb1.mono (by have := hnx.size; simp; omega))⟩
      · have hz : Hid (cmpRows r1 r2 = 1) := by
          show cmpRows r1 r2 = 1
          rw [cmpRows_end r1 r2 k (by rw [HR1.out]; exact hk1) (by rw [HR2.out]; exact hk2) HA.out (by rw [HR1.out, HR2.out]; omega), HR1.out, HR2.out]
          unfold ordI; rw [if_neg (by omega), if_pos (by omega)]
        go_wp2
        go_ret
        exact ⟨ret_int (by rw [hz.out]), hnx.alloc hnx.size _⟩
    · have hz : Hid (cmpRows r1 r2 = ordI n1 n2) := by
        show cmpRows r1 r2 = ordI n1 n2
        rw [cmpRows_end r1 r2 k (by rw [HR1.out]; exact hk1) (by rw [HR2.out]; exact hk2) HA.out (by rw [HR1.out, HR2.out]; omega), HR1.out, HR2.out]
      go_wp2
      all_goals
        go_ret
        exact ⟨ret_int (by rw [hz.out]; unfold ordI; omega), hnx⟩

theorem rows_any (a1 a2 : Option Addr) (c1 c2 : Nat) (r1 r2 : List Cel) (w : World) (h1 : rowAt w a1 r1) (h2 : rowAt w a2 r2) (l1 : r1.length ≤ 9223372036854775807) (l2 : r2.length ≤ 9223372036854775807) :
    Calls Try.prog 40 #[.slice a1 r1.length c1, .slice a2 r2.length c2] w fun e w' => e = .returned (.int .i64 (cmpRows r1 r2)) ∧ Below w.heap.size w w' := by
  obtain ⟨n1, hn1⟩ : ∃ n, r1.length = n := ⟨_, rfl⟩
  obtain ⟨n2, hn2⟩ : ∃ n, r2.length = n := ⟨_, rfl⟩
  have H := cmpFunc_any a1 a2 c1 c2 r1 r2 w h1 h2 l1 l2
  rw [hn1, hn2] at H ⊢
  clear hn1 hn2
  go_enter Try.func40, Try.ntmps40
  go_wp2_with (go_at_call 52; refine H.mono ?_; rintro e w1 ⟨rfl, hb1⟩)
  go_ret
  exact ⟨rfl, hb1⟩
end Go.Proofs.Ytkjiaeolodemlaf.vl
