/- group.find, and how groups are held against a row. -/
import Derived.Test.YtbfbgdinhiglaaaGreatGrpSearch
namespace Go.Proofs.YtbfbgdinhiglaaaGreat.gr
open Go.ChangeShapes Go.WideShapes Go.ChangeAt Go.RowKit
open vl pl bt
set_option linter.unusedVariables false
set_option linter.unusedSimpArgs false
attribute [local go_sem] Oper.semAt_some
set_option maxHeartbeats 1000000 in
theorem doCmp_any (x : GX) (g : Grp) (ra : Option Addr) (rc : Nat) (r : List Cel) (w : World) (h1 : vl.rowAt w x.r g.row) (h2 : vl.rowAt w ra r) (l1 : g.row.length ≤ 9223372036854775807) (l2 : r.length ≤ 9223372036854775807) :
    Calls Tryz.prog 82 #[grpV x g, .slice ra r.length rc] w fun e w' => e = .returned (.int .i64 (cmpRows g.row r)) ∧ Below w.heap.size w w' := by
  have KR : Hid (∀ w1, Below w.heap.size w w1 → Calls Tryz.prog 76 #[.slice x.r g.row.length x.rc, .slice ra r.length rc] w1 fun e w' => e = .returned (.int .i64 (cmpRows g.row r)) ∧ Below w1.heap.size w1 w') := fun w1 hb => rows_any _ _ _ _ _ _ w1 (vl.rowAt_below h1 hb) (vl.rowAt_below h2 hb) l1 l2
  clear h1 h2 l1 l2
  unfold grpV
  obtain ⟨y1, e1⟩ : ∃ z, x.r = z := ⟨_, rfl⟩
  obtain ⟨y2, e2⟩ : ∃ z, g.row.length = z := ⟨_, rfl⟩
  obtain ⟨y3, e3⟩ : ∃ z, x.rc = z := ⟨_, rfl⟩
  obtain ⟨y4, e4⟩ : ∃ z, g.n = z := ⟨_, rfl⟩
  obtain ⟨y5, e5⟩ : ∃ z, x.b = z := ⟨_, rfl⟩
  obtain ⟨y6, e6⟩ : ∃ z, g.bags.length = z := ⟨_, rfl⟩
  obtain ⟨y7, e7⟩ : ∃ z, x.bc = z := ⟨_, rfl⟩
  obtain ⟨y8, e8⟩ : ∃ z, cmpRows g.row r = z := ⟨_, rfl⟩
  obtain ⟨y9, e9⟩ : ∃ z, r.length = z := ⟨_, rfl⟩
  rw [e1, e2, e3, e8, e9] at KR
  rw [e1, e2, e3, e4, e5, e6, e7, e8, e9]
  clear e1 e2 e3 e4 e5 e6 e7 e8 e9
  go_enter Tryz.func82, Tryz.ntmps82
  go_wp2_with (go_at_call 76; refine (KR.out _ ((Below.refl _ _).alloc (Nat.le_refl _) _)).mono ?_; rintro e w1 ⟨rfl, hb1⟩)
  go_ret
  exact ⟨rfl, ((Below.refl _ _).alloc (Nat.le_refl _) _).trans (hb1.mono (by simp))⟩
set_option maxHeartbeats 1000000 in
theorem findCmp_any (k n : Int) (s : ByteArray) (m tk tn : Int) (ts : ByteArray) (w : World) :
    Calls Tryz.prog 158 #[.agg #[.int .i64 k, .int .i64 n, .string s, .int .i64 m], .agg #[.int .i64 tk, .int .i64 tn, .string ts]] w fun e w' => e = .returned (.int .i64 (cmpC ⟨k, n, s⟩ ⟨tk, tn, ts⟩)) ∧ Below w.heap.size w w' := by
  have KR : Hid (∀ w1, Calls Tryz.prog 124 #[.agg #[.int .i64 k, .int .i64 n, .string s], .agg #[.int .i64 tk, .int .i64 tn, .string ts]] w1 fun e w' => e = .returned (.int .i64 (cmpC ⟨k, n, s⟩ ⟨tk, tn, ts⟩)) ∧ Below w1.heap.size w1 w') := fun w1 => compare_any _ _ _ _ _ _ w1
  obtain ⟨y8, e8⟩ : ∃ z, cmpC ⟨k, n, s⟩ ⟨tk, tn, ts⟩ = z := ⟨_, rfl⟩
  rw [e8] at KR ⊢
  clear e8
  go_enter Tryz.func158, Tryz.ntmps158
  go_wp2_with (go_at_call 124; refine (KR.out _).mono ?_; rintro e w1 ⟨rfl, hb1⟩)
  go_ret
  exact ⟨rfl, (((Below.refl _ _).alloc (Nat.le_refl _) _).alloc (by simp) _).trans (hb1.mono (by simp; omega))⟩
/-- a bag rises -/
def Rises (l : List Tal) : Prop := ∀ a b, a < b → b < l.length → cmpC (l.getD a default).1 (l.getD b default).1 < 0
set_option maxHeartbeats 1000000 in
theorem find_any (a : Option Addr) (cap : Nat) (l : List Tal) (c : Cel) (w : World) (hl : l.length < 4611686018427387904) (ha : bagAt w a l) (hm : ∀ i j, i ≤ j → j < l.length → cmpC (l.getD j default).1 c < 0 → cmpC (l.getD i default).1 c < 0) :
    Calls Tryz.prog 128 #[.slice a l.length cap, .agg #[.int .i64 c.k, .int .i64 c.n, .string c.s]] w fun e w' =>
      (∃ i : Nat, i ≤ l.length ∧ e = .returned (.tuple #[.int .i64 i, .bool (decide (i < l.length) && decide (cmpC (l.getD i default).1 c = 0))]) ∧ (∀ t, t < i → cmpC (l.getD t default).1 c < 0) ∧ (∀ t, i ≤ t → t < l.length → 0 ≤ cmpC (l.getD t default).1 c)) ∧ Below w.heap.size w w' := by
  have KS : Hid (∀ w1, Below w.heap.size w w1 → _) := fun w1 hb => searchT_any 158 (enters_of Tryz.func158 (by kernel_rfl) rfl) (fun i => cmpC (l.getD i default).1 c) a cap l c.k c.n c.s w1 hl (bagAt_below ha hb) (fun i w2 _ _ => findCmp_any _ _ _ _ _ _ _ w2) hm
  clear ha hm
  obtain ⟨ck, cn, cs⟩ := c
  dsimp only at KS ⊢
  obtain ⟨F, hF⟩ : ∃ F : Nat → Int, ∀ i, cmpC (l.getD i default).1 ⟨ck, cn, cs⟩ = F i := ⟨_, fun _ => rfl⟩
  simp only [hF] at KS ⊢
  obtain ⟨n, hn⟩ : ∃ z, l.length = z := ⟨_, rfl⟩
  rw [hn] at KS hl ⊢
  clear hF hn
  go_enter Tryz.func128, Tryz.ntmps128
  go_wp2_with (go_at_call 157; refine (KS.out _ ((Below.refl _ _).alloc (Nat.le_refl _) _)).mono ?_; rintro e w1 ⟨⟨i, hi, rfl, h1, h2⟩, hb1⟩)
  go_ret2
  exact ⟨⟨i, hi, rfl, h1, h2⟩, ((Below.refl _ _).alloc (Nat.le_refl _) _).trans (hb1.mono (by simp))⟩
end Go.Proofs.YtbfbgdinhiglaaaGreat.gr
