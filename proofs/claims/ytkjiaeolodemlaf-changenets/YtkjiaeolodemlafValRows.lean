/- What is done with whole rows: Same, CompareRows, CompareFunc and Rows. -/
import Derived.Test.YtkjiaeolodemlafValCheck
import Derived.Deep.QuietTactic
import Derived.BigQuiet
namespace Go.Proofs.Ytkjiaeolodemlaf.vl
open Go.ChangeShapes Go.WideShapes Go.ChangeAt Go.RowKit
set_option linter.unusedVariables false
set_option linter.unusedSimpArgs false

/-- a cell of a row -/
structure Cel where
  k : Int
  n : Int
  s : ByteArray
deriving DecidableEq
instance : Inhabited Cel := ⟨⟨0, 0, ⟨#[]⟩⟩⟩
def Cel.val (c : Cel) : Value := .agg #[.int .i64 c.k, .int .i64 c.n, .string c.s]

/-- a slice that begins at a has the cells of r -/
def rowAt (w : World) (a : Option Addr) (r : List Cel) : Prop :=
  ∀ i, i < r.length → ∃ b off, a = some ⟨b, off, none⟩ ∧ w.cell? ⟨b, off + i * 3, none⟩ = some (.int .i64 (r.getD i default).k) ∧ w.cell? ⟨b, off + i * 3 + 1, none⟩ = some (.int .i64 (r.getD i default).n) ∧ w.cell? ⟨b, off + i * 3 + 1 + 1, none⟩ = some (.string (r.getD i default).s)

theorem ret_bool {a b : Bool} (h : a = b) : Ending.returned (.bool a) = .returned (.bool b) := by rw [h]
theorem take_eq_succ {r1 r2 : List Cel} {k : Nat} (h1 : k < r1.length) (h2 : k < r2.length) (h : r1.take k = r2.take k) (hk : r1.getD k default = r2.getD k default) : r1.take (k + 1) = r2.take (k + 1) := by
  rw [List.take_succ_eq_append_getElem h1, List.take_succ_eq_append_getElem h2, h]
  simp only [List.getD_eq_getElem?_getD, List.getElem?_eq_getElem h1, List.getElem?_eq_getElem h2, Option.getD_some] at hk
  rw [hk]

set_option maxHeartbeats 1000000 in
theorem same_any (a1 a2 : Option Addr) (c1 c2 : Nat) (r1 r2 : List Cel) (w : World) (h1 : rowAt w a1 r1) (h2 : rowAt w a2 r2) (l1 : r1.length ≤ 9223372036854775807) (l2 : r2.length ≤ 9223372036854775807) :
    Calls Try.prog 28 #[.slice a1 r1.length c1, .slice a2 r2.length c2] w fun e w' => e = .returned (.bool (decide (r1 = r2))) ∧ Below w.heap.size w w' := by
  by_cases hl : r1.length = r2.length
  · obtain ⟨len, hlen⟩ : ∃ len, r1.length = len := ⟨_, rfl⟩
    have hlen2 : r2.length = len := by omega
    rw [hlen] at l1
    have HR : Hid (r1.length = len) := hlen
    have HR2 : Hid (r2.length = len) := hlen2
    rw [hlen, hlen2]
    clear hl l2 hlen hlen2
    go_enter Try.func28, Try.ntmps28
    go_wp2
    go_loopw [5] (fun i wr => ∃ k : Nat, k ≤ len ∧ i = .int .i64 k ∧ Below w.heap.size w wr ∧ r1.take k = r2.take k) (fun i _ => len - (intOf i).toNat)
    case atStart => exact ⟨0, Nat.zero_le _, rfl, Below.refl _ _, rfl⟩
    case round =>
      obtain ⟨k, hk, rfl, hnx, hall⟩ := hrel
      have HA : Hid (r1.take k = r2.take k) := hall
      clear hall
      by_cases hlt : k < len
      · obtain ⟨b1, o1, e1, x1, x2, x3⟩ := h1 k (by rw [HR.out]; exact hlt)
        obtain ⟨b2, o2, e2, y1, y2, y3⟩ := h2 k (by rw [HR2.out]; exact hlt)
        subst e1 e2
        have q1 := cell_later hnx x1
        have q2 := cell_later hnx x2
        have q3 := cell_later hnx x3
        have p1 := cell_later hnx y1
        have p2 := cell_later hnx y2
        have p3 := cell_later hnx y3
        clear x1 x2 x3 y1 y2 y3 h1 h2
        obtain ⟨⟨ka, na, sa⟩, hca⟩ : ∃ c, r1.getD k default = c := ⟨_, rfl⟩
        obtain ⟨⟨kb, nb, sb⟩, hcb⟩ : ∃ c, r2.getD k default = c := ⟨_, rfl⟩
        rw [hca] at q1 q2 q3
        rw [hcb] at p1 p2 p3
        have HCA : Hid (r1.getD k default = ⟨ka, na, sa⟩) := hca
        have HCB : Hid (r2.getD k default = ⟨kb, nb, sb⟩) := hcb
        clear hca hcb
        dsimp only at q1 q2 q3 p1 p2 p3
        have i1 : (0 : Int) ≤ (k : Int) := by omega
        have i2 : (k : Int) < (len : Int) := by omega
        by_cases t1 : ka = kb
        · by_cases t2 : na = nb
          · by_cases t3 : sa.toList = sb.toList
            · have t3' : sa = sb := ByteArray.ext (Array.ext' (by rwa [Lib.toList_data, Lib.toList_data] at t3))
              clear t3
              subst t1 t2 t3'
              go_wp2
              go_quiet (fail)
              go_wp2
              go_roundw
              case rel => exact ⟨k + 1, by omega, by go_num, below_drewN hnx _, take_eq_succ (by rw [HR.out]; exact hlt) (by rw [HR2.out]; exact hlt) HA.out (by rw [HCA.out, HCB.out])⟩
              case measure => simp [intOf]; omega
            · have hn : Hid (¬ r1 = r2) := fun h => by
                have e1 := HCA.out
                rw [h, HCB.out] at e1
                cases e1
                exact t3 rfl
              go_wp2
              go_quiet (fail)
              go_wp2
              go_ret
              exact ⟨ret_bool (by rw [decide_eq_false hn.out]), below_drewN hnx _⟩
          · have hn : Hid (¬ r1 = r2) := fun h => by
              have e1 := HCA.out
              rw [h, HCB.out] at e1
              cases e1
              exact t2 rfl
            go_wp2
            go_quiet (fail)
            go_wp2
            go_ret
            exact ⟨ret_bool (by rw [decide_eq_false hn.out]), below_drewN hnx _⟩
        · have hn : Hid (¬ r1 = r2) := fun h => by
            have e1 := HCA.out
            rw [h, HCB.out] at e1
            cases e1
            exact t1 rfl
          go_wp2
          go_quiet (fail)
          go_wp2
          go_ret
          exact ⟨ret_bool (by rw [decide_eq_false hn.out]), below_drewN hnx _⟩
      · have hn : Hid (r1 = r2) := by
          show r1 = r2
          have h := HA.out
          rwa [List.take_of_length_le (by rw [HR.out]; omega), List.take_of_length_le (by rw [HR2.out]; omega)] at h
        go_wp2
        go_ret
        exact ⟨ret_bool (by rw [decide_eq_true hn.out]), hnx⟩
  · have hn : Hid (¬ r1 = r2) := fun h => hl (by rw [h])
    have hl' : ((r1.length : Int) == (r2.length : Int)) = false := by simp; omega
    go_enter Try.func28, Try.ntmps28
    go_wp2
    go_ret
    exact ⟨ret_bool (by rw [decide_eq_false hn.out]), Below.refl _ _⟩
end Go.Proofs.Ytkjiaeolodemlaf.vl
