/- copied of none, and told where one row is new. -/
import Derived.Test.YtbfbgdinhiglaaaGreatGrpOne
namespace Go.Proofs.YtbfbgdinhiglaaaGreat.gr
open Go.ChangeShapes Go.WideShapes Go.ChangeAt Go.RowKit
open vl pl bt
set_option linter.unusedVariables false
set_option linter.unusedSimpArgs false
attribute [local go_sem] Oper.semAt_some
theorem own_none {w : World} {base : Nat} (hb : base ≤ w.heap.size) (T : TypeId) (s : Nat) : (w.alloc (.cells #[] T)).ownsRow base T s (.slice (some ⟨w.heap.size, 0, none⟩) 0 0) 0 [] :=
  ⟨by simp, .inr ⟨w.heap.size, 0, #[], rfl, hb, (by show (w.heap.push _)[w.heap.size]? = _; simp), Nat.le_refl _, by decide, by simp, by simp⟩⟩
set_option maxRecDepth 100000 in
set_option maxHeartbeats 1000000 in
theorem copied_none (w : World) : Calls Tryz.prog 38 #[.slice none 0 0] w fun e w' => (∃ ad cap, e = .returned (.slice ad 0 cap) ∧ w'.ownsRow w.heap.size 53 3 (.slice ad 0 cap) 0 []) ∧ Below w.heap.size w w' := by
  have hmk : ∀ w, (Instr.makeSlice 26 (.int .i64 0) (.int .i64 0)).run Tryz.prog w = .ok (.slice (some ⟨w.heap.size, 0, none⟩) 0 0) (w.alloc (.cells #[] 53)) := fun w => by kernel_rfl
  have ho := own_none (Nat.le_refl w.heap.size) 53 3
  have HO : Hid ((w.alloc (.cells #[] 53)).ownsRow w.heap.size 53 3 (.slice (some ⟨w.heap.size, 0, none⟩) 0 0) 0 []) := ho
  clear ho
  go_enter Tryz.func38, Tryz.ntmps38
  go_wp2
  go_loopw [3, 14] (fun v t wr => v = .slice (some ⟨w.heap.size, 0, none⟩) 0 0 ∧ t = .int .i64 0 ∧ wr = w.alloc (.cells #[] 53)) (fun _ _ _ => 0)
  case atStart => exact ⟨rfl, rfl, rfl⟩
  case round =>
    obtain ⟨rfl, rfl, rfl⟩ := hrel
    go_wp2
    go_ret
    exact ⟨⟨_, _, rfl, HO.out⟩, (Below.refl _ _).alloc (Nat.le_refl _) _⟩
theorem infoCh : (Tryz.prog.info? 65).map (fun i => (i.zero, i.size, i.bytes)) = some (some (.agg #[.int .i64 0, .slice none 0 0]), 2, 32) := by kernel_rfl
set_option maxRecDepth 100000 in
set_option maxHeartbeats 1000000 in
theorem first_new (size : Int) (wa na : Option Addr) (wc nc : Nat) (w : World) : Calls Tryz.prog 87 #[.int .i64 size, .slice wa 0 wc, .slice na 1 nc] w fun e w' => e = .returned (.int .i64 1) ∧ w' = w := by
  go_enter Tryz.func87, Tryz.ntmps87
  go_wp2_with (go_at_call 133; refine (cmpInt_any _ _ _).mono ?_; rintro e w' ⟨rfl, rfl⟩)
  go_ret
  exact ⟨rfl, rfl⟩
set_option maxRecDepth 100000 in
set_option maxHeartbeats 4000000 in
theorem told_new (size : Int) (wa : Option Addr) (wc nb no nc : Nat) (ra : Option Addr) (rl rc : Nat) (w : World) (hc : w.cell? ⟨nb, no, none⟩ = some (.slice ra rl rc)) (hnc : 1 ≤ nc) :
    Calls Tryz.prog 40 #[.int .i64 size, .slice wa 0 wc, .slice (some ⟨nb, no, none⟩) 1 nc] w fun e w' => (∃ tb tcap, e = .returned (.slice (some ⟨tb, 0, none⟩) 1 tcap) ∧ w'.cell? ⟨tb, 0, none⟩ = some (.int .i64 1)) ∧ Below w.heap.size w w' := by
  obtain ⟨i0, hii, hz0, hz1, hz2⟩ := info_parts infoCh
  have HI : Hid (Tryz.prog.info? 65 = some i0 ∧ i0.zero = some (.agg #[.int .i64 0, .slice none 0 0]) ∧ i0.size = 2 ∧ i0.bytes = 32) := ⟨hii, hz0, hz1, hz2⟩
  clear hii hz0 hz1 hz2
  have i1 : (1 : Int) ≤ (nc : Int) := by omega
  go_enter Tryz.func40, Tryz.ntmps40
  go_wp2
  go_loopw [1, 2, 7] (fun s1 s2 s7 wr => s1 = .slice wa 0 wc ∧ ((s2 = .slice (some ⟨nb, no, none⟩) 1 nc ∧ s7 = .slice none 0 0 ∧ wr = w) ∨ (∃ a c tb tcap, s2 = .slice a 0 c ∧ s7 = .slice (some ⟨tb, 0, none⟩) 1 tcap ∧ wr.cell? ⟨tb, 0, none⟩ = some (.int .i64 1) ∧ Below w.heap.size w wr))) (fun _ s2 _ _ => match s2 with | .slice _ n _ => n | _ => 0)
  case atStart => exact ⟨rfl, .inl ⟨rfl, rfl, rfl⟩⟩
  case round =>
    rcases hrel with ⟨rfl, ⟨rfl, rfl, rfl⟩ | ⟨a, c, tb, tcap, rfl, rfl, q1, hb⟩⟩
    · go_wp2_with (first
        | (go_at_call 87; refine (first_new _ _ _ _ _ _).mono ?_; rintro e w' ⟨rfl, rfl⟩)
        | (at_builtin; refine wpList_append_lies _ rfl (.tmp 35) (.tmp 41) 36 rfl w'.heap.size 65 i0 (.agg #[.int .i64 0, .slice none 0 0]) 2 32 Tryz.underlying36 HI.out.1 HI.out.2.1 HI.out.2.2.1 HI.out.2.2.2 rfl (by decide) _ 0 [] rfl (World.ownsRow_nil _ _ _ _) ⟨w'.heap.size, 0, none⟩ 1 1 [.int .i64 1, .slice ra rl rc] rfl rfl (cell_two_new _ _ _ _) (by intro u hu; simp at hu; rcases hu with rfl | rfl <;> rfl) (by decide) (by unfold maxLen; omega) (by omega) (by simp) _ rfl ?_; intro g cap4 w4 hown4 hgrow4 hat4 hlt4))
      all_goals
        have hB : Below w'.heap.size w' w4 := ((Below.refl _ _).alloc (Nat.le_refl _) _).grown hgrow4 (by simp) (fun k hk => by simp [Act.eval, Value.ownBlock] at hk)
        exact ⟨⟨rfl, .inr ⟨_, _, g, cap4, rfl, rfl, own_cell hown4 0 _ rfl, hB⟩⟩, Nat.lt_succ_self 0⟩
    · go_wp2
      go_ret
      exact ⟨⟨tb, tcap, rfl, q1⟩, hb⟩
end Go.Proofs.YtbfbgdinhiglaaaGreat.gr
