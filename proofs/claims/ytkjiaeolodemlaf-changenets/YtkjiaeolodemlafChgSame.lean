/- SameViews: are two views the same? -/
import Derived.Test.YtkjiaeolodemlafChgFold
namespace Go.Proofs.Ytkjiaeolodemlaf.ch
open Go.ChangeShapes Go.WideShapes Go.ChangeAt Go.RowKit Go.Maps Go.WideMaps
open vl
set_option linter.unusedVariables false
set_option linter.unusedSimpArgs false

instance : DecidableEq Cnt := fun a b => if h : a.r = b.r ∧ a.n = b.n then isTrue (by cases a; cases b; simp at h; simp [h]) else isFalse (fun e => h (by rw [e]; exact ⟨rfl, rfl⟩))
theorem take_eq_cnt {r1 r2 : List Cnt} {k : Nat} (h1 : k < r1.length) (h2 : k < r2.length) (h : r1.take k = r2.take k) (hk : r1.getD k default = r2.getD k default) : r1.take (k + 1) = r2.take (k + 1) := by
  rw [takeV r1 k h1, takeV r2 k h2, h, hk]
theorem ne_at {r1 r2 : List Cnt} {k : Nat} (hk : r1.getD k default ≠ r2.getD k default) : decide (r1 = r2) = false := decide_eq_false (fun e => hk (by rw [e]))

set_option maxHeartbeats 4000000 in
theorem sameViews_any (a1 a2 : Option Addr) (c1 c2 : Nat) (r1 r2 : List Cnt) (w : World) (h1 : viewAt w a1 r1) (h2 : viewAt w a2 r2) (x1 : wfView r1) (x2 : wfView r2) (l1 : r1.length ≤ 9223372036854775807) (l2 : r2.length ≤ 9223372036854775807) :
    Calls Try.prog 18 #[.slice a1 r1.length c1, .slice a2 r2.length c2] w fun e w' => e = .returned (.bool (decide (r1 = r2))) ∧ Below w.heap.size w w' := by
  by_cases hl : r1.length = r2.length
  · obtain ⟨len, hlen⟩ : ∃ len, r1.length = len := ⟨_, rfl⟩
    have hlen2 : r2.length = len := by omega
    rw [hlen] at l1
    have HR : Hid (r1.length = len) := hlen
    have HR2 : Hid (r2.length = len) := hlen2
    rw [hlen, hlen2]
    clear hl l2 hlen hlen2
    go_enter Try.func18, Try.ntmps18
    go_wp2
    go_loopw [5] (fun i wr => ∃ k : Nat, k ≤ len ∧ i = .int .i64 k ∧ Below w.heap.size w wr ∧ r1.take k = r2.take k) (fun i _ => len - (intOf i).toNat)
    case atStart => exact ⟨0, Nat.zero_le _, rfl, Below.refl _ _, rfl⟩
    case round =>
      obtain ⟨k, hk, rfl, hnx, hall⟩ := hrel
      have HA : Hid (r1.take k = r2.take k) := hall
      clear hall
      by_cases hlt : k < len
      · have hk1 : k < r1.length := by rw [HR.out]; exact hlt
        have hk2 : k < r2.length := by rw [HR2.out]; exact hlt
        obtain ⟨b1, o1, ra1, rc1, e1, p1, p2, p3⟩ := h1 k hk1
        obtain ⟨b2, o2, ra2, rc2, e2, y1, y2, y3⟩ := h2 k hk2
        subst e1 e2
        have z1 := (wfv_at x1 k hk1).2.1
        have z2 := (wfv_at x2 k hk2).2.1
        have q1 := cell_later hnx p1
        have HQ2 : Hid (vl.rowAt wr ra1 (r1.getD k default).r) := rowAt_below p2 hnx
        have q3 := cell_later hnx p3
        have s1 := cell_later hnx y1
        have HS2 : Hid (vl.rowAt wr ra2 (r2.getD k default).r) := rowAt_below y2 hnx
        have s3 := cell_later hnx y3
        clear p1 p2 p3 y1 y2 y3 h1 h2
        have HNE : Hid (r1.getD k default ≠ r2.getD k default → decide (r1 = r2) = false) := ne_at
        have HEQ : Hid (r1.getD k default = r2.getD k default → r1.take (k + 1) = r2.take (k + 1)) := take_eq_cnt hk1 hk2 HA.out
        obtain ⟨⟨ra, na⟩, hca⟩ : ∃ c, r1.getD k default = c := ⟨_, rfl⟩
        obtain ⟨⟨rb, nb⟩, hcb⟩ : ∃ c, r2.getD k default = c := ⟨_, rfl⟩
        rw [hca] at q1 q3 HQ2 HNE HEQ z1
        rw [hcb] at s1 s3 HS2 HNE HEQ z2
        clear hca hcb
        dsimp only at q1 q3 s1 s3 HQ2 HS2 z1 z2
        obtain ⟨la, hla⟩ : ∃ x, ra.length = x := ⟨_, rfl⟩
        obtain ⟨lb, hlb⟩ : ∃ x, rb.length = x := ⟨_, rfl⟩
        have KS : Hid (∀ w', Below wr.heap.size wr w' → Calls Try.prog 28 #[.slice ra1 la rc1, .slice ra2 lb rc2] w' fun e w'' => e = .returned (.bool (decide (ra = rb))) ∧ Below w'.heap.size w' w'') := fun w' hb => by
          rw [← hla, ← hlb]; exact same_any ra1 ra2 rc1 rc2 ra rb w' (rowAt_below HQ2.out hb) (rowAt_below HS2.out hb) z1 z2
        rw [hla] at q1
        rw [hlb] at s1
        clear hla hlb z1 z2
        have i1 : (0 : Int) ≤ (k : Int) := by omega
        have i2 : (k : Int) < (len : Int) := by omega
        have dr : Below wr.heap.size wr wr.drew := (Below.refl _ _).drew
        by_cases t1 : na = nb
        · subst t1
          by_cases t2 : ra = rb
          · have HE : Hid (r1.take (k + 1) = r2.take (k + 1)) := HEQ.out (by rw [t2])
            rw [decide_eq_true t2] at KS
            go_wp2
            go_region_held3 (fun w' => w'.cell? ⟨b1, o1 + k * 2, none⟩ = some (.slice ra1 la rc1) ∧ w'.cell? ⟨b2, o2 + k * 2, none⟩ = some (.slice ra2 lb rc2) ∧ w'.cell? ⟨b1, o1 + k * 2 + 1, none⟩ = some (.int .i64 na) ∧ w'.cell? ⟨b2, o2 + k * 2 + 1, none⟩ = some (.int .i64 na)) (first | go_keep | exact ⟨cell_later hbq q1, cell_later hbq s1, cell_later hbq q3, cell_later hbq s3⟩)
              (first | (go_at_call 28; refine (KS.out wr.drew dr).mono ?_; rintro e wq ⟨rfl, hbq⟩))
            all_goals
              have hlq : Below w.heap.size w wq := hnx.drew.trans (hbq.mono hnx.size)
              go_wp2
              go_roundw
              case rel => exact ⟨k + 1, by omega, by go_num, hlq, HE.out⟩
              case measure => simp [intOf]; omega
          · have HE : Hid (decide (r1 = r2) = false) := HNE.out (fun e => t2 (by cases e; rfl))
            rw [decide_eq_false t2] at KS
            go_wp2
            go_region_held3 (fun w' => w'.cell? ⟨b1, o1 + k * 2, none⟩ = some (.slice ra1 la rc1) ∧ w'.cell? ⟨b2, o2 + k * 2, none⟩ = some (.slice ra2 lb rc2) ∧ w'.cell? ⟨b1, o1 + k * 2 + 1, none⟩ = some (.int .i64 na) ∧ w'.cell? ⟨b2, o2 + k * 2 + 1, none⟩ = some (.int .i64 na)) (first | go_keep | exact ⟨cell_later hbq q1, cell_later hbq s1, cell_later hbq q3, cell_later hbq s3⟩)
              (first | (go_at_call 28; refine (KS.out wr.drew dr).mono ?_; rintro e wq ⟨rfl, hbq⟩))
            all_goals
              have hlq : Below w.heap.size w wq := hnx.drew.trans (hbq.mono hnx.size)
              go_wp2
              go_ret
              exact ⟨ret_bool HE.out.symm, hlq⟩
        · have t1' : (na == nb) = false := by simpa using t1
          have t1n : ∀ t, binOp .neq t (.int .i64 na) (.int .i64 nb) = pure (.bool true) := fun t => by rw [binOp_neq, show (na != nb) = true by simpa using t1]
          have HE : Hid (decide (r1 = r2) = false) := HNE.out (fun e => t1 (by cases e; rfl))
          go_wp2
          go_quiet (fail)
          have hld := below_drewN hnx nq
          go_wp2
          go_ret
          exact ⟨ret_bool HE.out.symm, hld⟩
      · have HT : Hid (decide (r1 = r2) = true) := decide_eq_true (by
          have h := HA.out
          rw [List.take_of_length_le (by rw [HR.out]; omega), List.take_of_length_le (by rw [HR2.out]; omega)] at h
          exact h)
        go_wp2
        go_ret
        exact ⟨ret_bool HT.out.symm, hnx⟩
  · have hl' : ((r1.length : Int) == (r2.length : Int)) = false := by rw [beq_eq_false_iff_ne]; omega
    have HE : Hid (decide (r1 = r2) = false) := decide_eq_false (fun e => hl (by rw [e]))
    obtain ⟨n1, hn1⟩ : ∃ x, r1.length = x := ⟨_, rfl⟩
    obtain ⟨n2, hn2⟩ : ∃ x, r2.length = x := ⟨_, rfl⟩
    rw [hn1, hn2] at hl'
    rw [hn1, hn2]
    rw [hn1] at l1
    rw [hn2] at l2
    go_enter Try.func18, Try.ntmps18
    go_wp2
    go_ret
    exact ⟨ret_bool HE.out.symm, Below.refl _ _⟩
end Go.Proofs.Ytkjiaeolodemlaf.ch
