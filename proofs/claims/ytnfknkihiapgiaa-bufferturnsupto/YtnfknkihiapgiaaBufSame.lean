/- The document's SameEntries and SameBuffers, of what is the same. -/
import Derived.Test.YtnfknkihiapgiaaBufRef1
import Derived.Test.YtnfknkihiapgiaaFvC
import Derived.Deep.RegionHeld3
namespace Go.Proofs.Ytnfknkihiapgiaa.bf
open Go.ChangeShapes Go.WideShapes Go.ChangeAt Go.RowKit
open vl
set_option linter.unusedVariables false
set_option linter.unusedSimpArgs false
attribute [local go_sem] Oper.semAt_some
set_option maxRecDepth 100000 in
set_option maxHeartbeats 8000000 in
theorem sameE_eq (a a' : Option Addr) (c c' : Nat) (es es' : List EM) (l : List Ent) (w : World) (ha : emsAt w a es) (hr : ERs w es l) (ha' : emsAt w a' es') (hr' : ERs w es' l) (hl : l.length ≤ 9223372036854775807) (hrow : ∀ y ∈ l, y.row.length ≤ 9223372036854775807) :
    Calls Try.prog 24 #[.slice a l.length c, .slice a' l.length c'] w fun e w' => e = .returned (.bool true) ∧ Below w.heap.size w w' := by
  have HA : Hid (emsAt w a es) := ha
  have HA' : Hid (emsAt w a' es') := ha'
  have HR : Hid (ERs w es l) := hr
  have HR' : Hid (ERs w es' l) := hr'
  have HROW : Hid (∀ y ∈ l, y.row.length ≤ 9223372036854775807) := hrow
  obtain ⟨n, hn⟩ : ∃ n, l.length = n := ⟨_, rfl⟩
  have HN : Hid (l.length = n) := hn
  rw [hn] at hl ⊢
  clear hn ha ha' hr hr' hrow
  go_enter Try.func24, Try.ntmps24
  go_wp2
  go_loopw [5] (fun i wr => ∃ k : Nat, k ≤ n ∧ i = .int .i64 k ∧ Below w.heap.size w wr) (fun i _ => n - (intOf i).toNat)
  case atStart => exact ⟨0, Nat.zero_le _, rfl, Below.refl _ _⟩
  case round =>
    obtain ⟨k, hk, rfl, hnx⟩ := hrel
    by_cases hlt : k < n
    · obtain ⟨b1, o1, e1, x1, x2, x3, x4, x5⟩ := HA.out k (by rw [HR.out.1, HN.out]; exact hlt)
      obtain ⟨b2, o2, e2, y1, y2, y3, y4, y5⟩ := HA'.out k (by rw [HR'.out.1, HN.out]; exact hlt)
      subst e1 e2
      have z1 := cell_later hnx x1
      have z2 := cell_later hnx x2
      have z3 := cell_later hnx x3
      have z4 := cell_later hnx x4
      have z5 := cell_later hnx x5
      have u1 := cell_later hnx y1
      have u2 := cell_later hnx y2
      have u3 := cell_later hnx y3
      have u4 := cell_later hnx y4
      have u5 := cell_later hnx y5
      clear x1 x2 x3 x4 x5 y1 y2 y3 y4 y5
      have h1 := (HR.out.2 k (by rw [HN.out]; exact hlt)).below hnx
      have h2 := (HR'.out.2 k (by rw [HN.out]; exact hlt)).below hnx
      have hm : l.getD k default ∈ l := mem_getD (by rw [HN.out]; exact hlt)
      have hlen := HROW.out _ hm
      have KC : Hid (∀ w1, Calls Try.prog 55 #[(es.getD k default).val, (es'.getD k default).val] w1 fun r w' => r = .returned (.int .i64 0) ∧ Below w1.heap.size w1 w') := fun w1 => by
        have k0 := rcomp_any (es.getD k default) (es'.getD k default) w1
        rwa [cmpP_ent h1 h2, cmpP_zero.2 (sameP_refl _)] at k0
      have KS : Hid (∀ w1, Below wr.heap.size wr w1 → Calls Try.prog 56 #[hdV (es.getD k default).row, hdV (es'.getD k default).row] w1 fun r w' => r = .returned (.bool true) ∧ Below w1.heap.size w1 w') := fun w1 hb => by
        have k0 := same_any (es.getD k default).row.1 (es'.getD k default).row.1 (es.getD k default).row.2.2 (es'.getD k default).row.2.2 (l.getD k default).row (l.getD k default).row w1 (rowAt_below h1.row hb) (rowAt_below h2.row hb) hlen hlen
        rw [decide_eq_true rfl] at k0
        unfold hdV
        rw [h1.len, h2.len]
        exact k0
      have a1 := h1.key.trans h2.key.symm
      have a2 := h1.time.trans h2.time.symm
      have a3 := h1.seq.trans h2.seq.symm
      have a4 := h1.met.trans h2.met.symm
      clear h1 h2 hm hlen
      obtain ⟨⟨ek, et, es1, ⟨r1, r2, r3⟩, em⟩, hz⟩ : ∃ z, es.getD k default = z := ⟨_, rfl⟩
      obtain ⟨⟨fk, ft, fs, ⟨q1, q2, q3⟩, fm⟩, hz'⟩ : ∃ z, es'.getD k default = z := ⟨_, rfl⟩
      rw [hz] at z1 z2 z3 z4 z5 KC KS a1 a2 a3 a4
      rw [hz'] at u1 u2 u3 u4 u5 KC KS a1 a2 a3 a4
      unfold EM.val hdV at KC
      unfold hdV at KS z4 u4
      dsimp only at z1 z2 z3 z4 z5 u1 u2 u3 u4 u5 KC KS a1 a2 a3 a4
      subst a1 a2 a3 a4
      clear hz hz'
      have i1 : (0 : Int) ≤ (k : Int) := by omega
      have i2 : (k : Int) < (n : Int) := by omega
      have dr : Below wr.heap.size wr wr.drew := (Below.refl _ _).drew
      go_wp2
      go_region_held3
        (fun w' => w'.cell? ⟨b1, o1 + k * 5, none⟩ = some (.string ek) ∧ w'.cell? ⟨b1, o1 + k * 5 + 1, none⟩ = some (.int .i64 et) ∧ w'.cell? ⟨b1, o1 + k * 5 + 1 + 1, none⟩ = some (.int .i64 es1) ∧ w'.cell? ⟨b1, o1 + k * 5 + 1 + 1 + 1, none⟩ = some (.slice r1 r2 r3) ∧ w'.cell? ⟨b1, o1 + k * 5 + 1 + 1 + 1 + 1, none⟩ = some (.bool em) ∧ w'.cell? ⟨b2, o2 + k * 5, none⟩ = some (.string ek) ∧ w'.cell? ⟨b2, o2 + k * 5 + 1, none⟩ = some (.int .i64 et) ∧ w'.cell? ⟨b2, o2 + k * 5 + 1 + 1, none⟩ = some (.int .i64 es1) ∧ w'.cell? ⟨b2, o2 + k * 5 + 1 + 1 + 1, none⟩ = some (.slice q1 q2 q3) ∧ w'.cell? ⟨b2, o2 + k * 5 + 1 + 1 + 1 + 1, none⟩ = some (.bool em))
        (first | go_keep | exact ⟨cell_later hbq z1, cell_later hbq z2, cell_later hbq z3, cell_later hbq z4, cell_later hbq z5, cell_later hbq u1, cell_later hbq u2, cell_later hbq u3, cell_later hbq u4, cell_later hbq u5⟩ | exact ⟨cell_later hbp z1, cell_later hbp z2, cell_later hbp z3, cell_later hbp z4, cell_later hbp z5, cell_later hbp u1, cell_later hbp u2, cell_later hbp u3, cell_later hbp u4, cell_later hbp u5⟩)
        (first
          | (go_at_call 56; refine (KS.out _ hbp).mono ?_; rintro e wq ⟨rfl, hbq0⟩; have hbq := hbp.trans (hbq0.mono hbp.size))
          | (go_at_call 55; refine (KC.out _).mono ?_; rintro e wp ⟨rfl, hbp0⟩; have hbp := dr.trans hbp0))
      all_goals
        have hlq : Below w.heap.size w wq := hnx.trans (hbq.mono hnx.size)
        go_wp2
        go_roundw
        case rel => exact ⟨k + 1, by omega, by go_num, hlq⟩
        case measure => simp [intOf]; omega
    · go_wp2
      go_ret
      exact ⟨rfl, hnx⟩
end Go.Proofs.Ytnfknkihiapgiaa.bf
