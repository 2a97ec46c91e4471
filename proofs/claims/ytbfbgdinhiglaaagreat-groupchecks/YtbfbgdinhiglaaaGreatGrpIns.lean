/- slices.Insert behind the last, at tallies and at groups. -/
import Derived.Test.YtbfbgdinhiglaaaGreatGrpPure
namespace Go.Proofs.YtbfbgdinhiglaaaGreat.gr
open Go.ChangeShapes Go.WideShapes Go.ChangeAt Go.RowKit
open vl pl bt
set_option linter.unusedVariables false
set_option linter.unusedSimpArgs false
attribute [local go_sem] Oper.semAt_some
theorem infoG : (Tryz.prog.info? 53).map (fun i => (i.zero, i.size, i.bytes)) = some (some (.agg #[.slice none 0 0, .int .i64 0, .slice none 0 0]), 3, 56) := by kernel_rfl
set_option maxRecDepth 100000 in
set_option maxHeartbeats 4000000 in
theorem insT_end (ad : Option Addr) (n cap : Nat) (xs : List Value) (base X : Nat) (k1 k2 : Int) (ks : ByteArray) (m : Int) (w : World) (ho : w.ownsRow base 82 4 (.slice ad n cap) n xs) (hn : n ≤ 1073741824) (hb : base ≤ w.heap.size) (c0 : w.cell? ⟨X, 0, none⟩ = some (.int .i64 k1)) (c1 : w.cell? ⟨X, 1, none⟩ = some (.int .i64 k2)) (c2 : w.cell? ⟨X, 2, none⟩ = some (.string ks)) (c3 : w.cell? ⟨X, 3, none⟩ = some (.int .i64 m)) :
    Calls Tryz.prog 132 #[.slice ad n cap, .int .i64 n, .slice (some ⟨X, 0, none⟩) 1 1] w fun e w' => ∃ g cap2, e = .returned (.slice (some ⟨g, 0, none⟩) (n + 1) cap2) ∧ w'.ownsRow base 82 4 (.slice (some ⟨g, 0, none⟩) (n + 1) cap2) (n + 1) (xs ++ [.int .i64 k1, .int .i64 k2, .string ks, .int .i64 m]) ∧ w.grownBy w' (Value.slice ad n cap).ownBlock ∧ ((Value.slice ad n cap).ownBlock = some g ∨ g = w.heap.size) ∧ g < w'.heap.size := by
  obtain ⟨i0, hii, hz0, hz1, hz2⟩ := info_parts infoT
  have HI : Hid (Tryz.prog.info? 82 = some i0 ∧ i0.zero = some (.agg #[.int .i64 0, .int .i64 0, .string ⟨#[]⟩, .int .i64 0]) ∧ i0.size = 4 ∧ i0.bytes = 40) := ⟨hii, hz0, hz1, hz2⟩
  have HO : Hid (w.ownsRow base 82 4 (.slice ad n cap) n xs) := ho
  have HC : Hid (∀ j u, [.int .i64 k1, .int .i64 k2, .string ks, .int .i64 m][j]? = some u → w.cell? ((⟨X, 0, none⟩ : Addr).add j) = some u) := fun j u hu => by
    match j, hu with
    | 0, hu => simp at hu; subst hu; exact c0
    | 1, hu => simp at hu; subst hu; exact c1
    | 2, hu => simp at hu; subst hu; exact c2
    | 3, hu => simp at hu; subst hu; exact c3
    | j + 4, hu => simp at hu
  have hform : (ad = none ∧ n = 0 ∧ cap = 0) ∨ ∃ g, ad = some ⟨g, 0, none⟩ ∧ n ≤ cap := by
    rcases ho.2 with ⟨hv, h0⟩ | ⟨g, cap', cur, hv, h1, hg, h2, h3, h4, h5⟩
    · cases hv; exact .inl ⟨rfl, rfl, rfl⟩
    · cases hv; exact .inr ⟨g, rfl, h2⟩
  clear c0 c1 c2 c3 ho hii hz0 hz1 hz2
  rcases hform with ⟨rfl, rfl, rfl⟩ | ⟨g0, rfl, hcap⟩
  · go_enter Tryz.func132, Tryz.ntmps132
    go_wp2_with (at_builtin; refine wpList_append_lies _ rfl (.tmp 23) (.tmp 24) 61 rfl base 82 i0 (.agg #[.int .i64 0, .int .i64 0, .string ⟨#[]⟩, .int .i64 0]) 4 40 Tryz.underlying61 HI.out.1 HI.out.2.1 HI.out.2.2.1 HI.out.2.2.2 rfl (by decide) _ 0 xs rfl HO.out ⟨X, 0, none⟩ 1 1 [.int .i64 k1, .int .i64 k2, .string ks, .int .i64 m] rfl rfl HC.out (by intro u hu; simp at hu; rcases hu with rfl | rfl | rfl | rfl <;> rfl) (by decide) (by unfold maxLen; omega) (by omega) hb _ rfl ?_; intro g cap4 w4 hown4 hgrow4 hat4 hlt4)
    go_ret
    exact ⟨g, cap4, rfl, hown4, hgrow4, hat4, hlt4⟩
  · have i1 : (0 : Int) ≤ (n : Int) := by omega
    have i2 : (n : Int) ≤ (n : Int) := by omega
    have i3 : (n : Int) ≤ (cap : Int) := by omega
    have i4 : ((n : Int) == (n : Int)) = true := by simp
    go_enter Tryz.func132, Tryz.ntmps132
    go_wp2_with (at_builtin; refine wpList_append_lies _ rfl (.tmp 23) (.tmp 24) 61 rfl base 82 i0 (.agg #[.int .i64 0, .int .i64 0, .string ⟨#[]⟩, .int .i64 0]) 4 40 Tryz.underlying61 HI.out.1 HI.out.2.1 HI.out.2.2.1 HI.out.2.2.2 rfl (by decide) _ n xs rfl HO.out ⟨X, 0, none⟩ 1 1 [.int .i64 k1, .int .i64 k2, .string ks, .int .i64 m] rfl rfl HC.out (by intro u hu; simp at hu; rcases hu with rfl | rfl | rfl | rfl <;> rfl) (by decide) (by unfold maxLen; omega) (by omega) hb _ rfl ?_; intro g cap4 w4 hown4 hgrow4 hat4 hlt4)
    all_goals
      go_ret
      exact ⟨g, cap4, rfl, hown4, hgrow4, hat4, hlt4⟩
set_option maxRecDepth 100000 in
set_option maxHeartbeats 4000000 in
theorem insG_end (ad : Option Addr) (n cap : Nat) (xs : List Value) (base X : Nat) (ra : Option Addr) (rl rc : Nat) (m : Int) (ba : Option Addr) (bl bc : Nat) (w : World) (ho : w.ownsRow base 53 3 (.slice ad n cap) n xs) (hn : n ≤ 1073741824) (hb : base ≤ w.heap.size) (c0 : w.cell? ⟨X, 0, none⟩ = some (.slice ra rl rc)) (c1 : w.cell? ⟨X, 1, none⟩ = some (.int .i64 m)) (c2 : w.cell? ⟨X, 2, none⟩ = some (.slice ba bl bc)) :
    Calls Tryz.prog 85 #[.slice ad n cap, .int .i64 n, .slice (some ⟨X, 0, none⟩) 1 1] w fun e w' => ∃ g cap2, e = .returned (.slice (some ⟨g, 0, none⟩) (n + 1) cap2) ∧ w'.ownsRow base 53 3 (.slice (some ⟨g, 0, none⟩) (n + 1) cap2) (n + 1) (xs ++ [.slice ra rl rc, .int .i64 m, .slice ba bl bc]) ∧ w.grownBy w' (Value.slice ad n cap).ownBlock ∧ ((Value.slice ad n cap).ownBlock = some g ∨ g = w.heap.size) ∧ g < w'.heap.size := by
  obtain ⟨i0, hii, hz0, hz1, hz2⟩ := info_parts infoG
  have HI : Hid (Tryz.prog.info? 53 = some i0 ∧ i0.zero = some (.agg #[.slice none 0 0, .int .i64 0, .slice none 0 0]) ∧ i0.size = 3 ∧ i0.bytes = 56) := ⟨hii, hz0, hz1, hz2⟩
  have HO : Hid (w.ownsRow base 53 3 (.slice ad n cap) n xs) := ho
  have HC : Hid (∀ j u, [.slice ra rl rc, .int .i64 m, .slice ba bl bc][j]? = some u → w.cell? ((⟨X, 0, none⟩ : Addr).add j) = some u) := fun j u hu => by
    match j, hu with
    | 0, hu => simp at hu; subst hu; exact c0
    | 1, hu => simp at hu; subst hu; exact c1
    | 2, hu => simp at hu; subst hu; exact c2
    | j + 3, hu => simp at hu
  have hform : (ad = none ∧ n = 0 ∧ cap = 0) ∨ ∃ g, ad = some ⟨g, 0, none⟩ ∧ n ≤ cap := by
    rcases ho.2 with ⟨hv, h0⟩ | ⟨g, cap', cur, hv, h1, hg, h2, h3, h4, h5⟩
    · cases hv; exact .inl ⟨rfl, rfl, rfl⟩
    · cases hv; exact .inr ⟨g, rfl, h2⟩
  clear c0 c1 c2 ho hii hz0 hz1 hz2
  rcases hform with ⟨rfl, rfl, rfl⟩ | ⟨g0, rfl, hcap⟩
  · go_enter Tryz.func85, Tryz.ntmps85
    go_wp2_with (at_builtin; refine wpList_append_lies _ rfl (.tmp 23) (.tmp 24) 26 rfl base 53 i0 (.agg #[.slice none 0 0, .int .i64 0, .slice none 0 0]) 3 56 Tryz.underlying26 HI.out.1 HI.out.2.1 HI.out.2.2.1 HI.out.2.2.2 rfl (by decide) _ 0 xs rfl HO.out ⟨X, 0, none⟩ 1 1 [.slice ra rl rc, .int .i64 m, .slice ba bl bc] rfl rfl HC.out (by intro u hu; simp at hu; rcases hu with rfl | rfl | rfl <;> rfl) (by decide) (by unfold maxLen; omega) (by omega) hb _ rfl ?_; intro g cap4 w4 hown4 hgrow4 hat4 hlt4)
    go_ret
    exact ⟨g, cap4, rfl, hown4, hgrow4, hat4, hlt4⟩
  · have i1 : (0 : Int) ≤ (n : Int) := by omega
    have i2 : (n : Int) ≤ (n : Int) := by omega
    have i3 : (n : Int) ≤ (cap : Int) := by omega
    have i4 : ((n : Int) == (n : Int)) = true := by simp
    go_enter Tryz.func85, Tryz.ntmps85
    go_wp2_with (at_builtin; refine wpList_append_lies _ rfl (.tmp 23) (.tmp 24) 26 rfl base 53 i0 (.agg #[.slice none 0 0, .int .i64 0, .slice none 0 0]) 3 56 Tryz.underlying26 HI.out.1 HI.out.2.1 HI.out.2.2.1 HI.out.2.2.2 rfl (by decide) _ n xs rfl HO.out ⟨X, 0, none⟩ 1 1 [.slice ra rl rc, .int .i64 m, .slice ba bl bc] rfl rfl HC.out (by intro u hu; simp at hu; rcases hu with rfl | rfl | rfl <;> rfl) (by decide) (by unfold maxLen; omega) (by omega) hb _ rfl ?_; intro g cap4 w4 hown4 hgrow4 hat4 hlt4)
    all_goals
      go_ret
      exact ⟨g, cap4, rfl, hown4, hgrow4, hat4, hlt4⟩
end Go.Proofs.YtbfbgdinhiglaaaGreat.gr
