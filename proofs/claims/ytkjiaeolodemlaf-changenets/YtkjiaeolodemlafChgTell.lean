/- What view's closure does to the view that it makes: one row more. -/
import Derived.Test.YtkjiaeolodemlafChgGather
import Derived.Deep.AppendLies
import Derived.Deep.RegionLaw
namespace Go.Proofs.Ytkjiaeolodemlaf.ch
open Go.ChangeShapes Go.WideShapes Go.ChangeAt Go.RowKit Go.Maps Go.WideMaps
open vl
set_option linter.unusedVariables false
set_option linter.unusedSimpArgs false

theorem infoC : (Try.prog.info? 51).map (fun i => (i.zero, i.size, i.bytes)) = some (some (.agg #[.slice none 0 0, .int .i64 0]), 2, 32) := by kernel_rfl

/-- fresh: the row of a key, in memory of its own -/
theorem fresh_any (r : List Cel) (k : ByteArray) (w : World) (h : rowOk r) (hk : encR r = k.data.toList) (hl : k.size ≤ maxLen) :
    Calls Try.prog 32 #[.string k] w fun e w' => (∃ ad cap, e = .returned (.slice ad r.length cap) ∧ ownV w' w.heap.size (.slice ad r.length cap) r) ∧ Below w.heap.size w w' := by
  obtain ⟨n, hn⟩ : ∃ n, r.length = n := ⟨_, rfl⟩
  have KB := back_yes k r w hl h hk
  rw [hn] at KB ⊢
  clear hn
  go_enter Try.func32, Try.ntmps32
  go_wp2_with fail
  refine KB.mono ?_
  rintro e w1 ⟨⟨ad, cap, rfl, ho⟩, hb⟩
  go_wp2
  go_ret
  exact ⟨⟨ad, cap, rfl, ho⟩, hb⟩

theorem own_below {w w' : World} {base : Nat} {e : TypeId} {size : Nat} {v : Value} {n : Nat} {xs : List Value} (h : w.ownsRow base e size v n xs) (hb : Below w.heap.size w w') : w'.ownsRow base e size v n xs := by
  refine ⟨h.1, ?_⟩
  rcases h.2 with h0 | ⟨g, cap, cur, hv, h1, hg, h2⟩
  · exact .inl h0
  · have hlt : g < w.heap.size := by
      rcases Nat.lt_or_ge g w.heap.size with hlt | hge
      · exact hlt
      · rw [Array.getElem?_eq_none hge] at hg; cases hg
    exact .inr ⟨g, cap, cur, hv, h1, by rw [hb.block g hlt]; exact hg, h2⟩

/-- the cells of a view's rows -/
def flat (l : List (Value × Int)) : List Value := l.flatMap fun p => [p.1, .int .i64 p.2]
theorem flat_len (l : List (Value × Int)) : (flat l).length = l.length * 2 := by
  induction l with
  | nil => rfl
  | cons c r ih => show ([_, _] ++ flat r).length = _; rw [List.length_append, ih, List.length_cons]; simp; omega
theorem flat_snoc (l : List (Value × Int)) (x : Value) (n : Int) : flat (l ++ [(x, n)]) = flat l ++ [x, .int .i64 n] := by
  unfold flat; rw [List.flatMap_append]; simp

theorem app_row (base : Nat) (v : Value) (l : List (Value × Int)) (n : Int) (ad : Option Addr) (rl cap : Nat) (w1 : World) (ln : Nat) (hln : l.length = ln) (ho : w1.ownsRow base 51 2 v ln (flat l)) (hl : ln ≤ 1000000) (hb : base ≤ w1.heap.size) :
    ∃ g cap2 w2, (Builtin.append_ #[22, 22] 22 #[v, .slice (some ⟨w1.heap.size, 0, none⟩) 1 1]).run Try.prog (w1.alloc (.cells #[.slice ad rl cap, .int .i64 n] 51)) = .ok (.slice (some ⟨g, 0, none⟩) (ln + 1) cap2) w2 ∧
      w2.ownsRow base 51 2 (.slice (some ⟨g, 0, none⟩) (ln + 1) cap2) (ln + 1) (flat (l ++ [(.slice ad rl cap, n)])) ∧ (w1.alloc (.cells #[.slice ad rl cap, .int .i64 n] 51)).grownBy w2 v.ownBlock ∧ (v.ownBlock = some g ∨ g = w1.heap.size + 1) ∧ g < w2.heap.size := by
  obtain ⟨i0, hi, hz0, hz1, hz2⟩ := info_parts infoC
  obtain ⟨g, cap2, w2, h1, h2, h3, h4, h5⟩ := run_append_lies (P := Try.prog) (w1.alloc (.cells #[.slice ad rl cap, .int .i64 n] 51)) 22 22 base 51 i0 (.agg #[.slice none 0 0, .int .i64 0]) 2 32 Try.underlying22 hi hz0 hz1 hz2 rfl (by decide) v ln (flat l)
    (ho.alloc _) ⟨w1.heap.size, 0, none⟩ 1 1 [.slice ad rl cap, .int .i64 n] rfl (cell_two_new _ _ _ _) (by intro u hu; simp at hu; rcases hu with rfl | rfl <;> rfl) (by decide) (by unfold maxLen; omega) (by omega) (by simp; omega) (w1.heap.size + 1) (by simp)
  exact ⟨g, cap2, w2, h1, by rw [flat_snoc]; exact h2, h3, h4, h5⟩
theorem step_app {ops : Array Oper} {o : Oper} {a : Act} {K : Act → World → Prop} {Q : Exit → Act → World → Prop} {E : Prop} (hgd : o.guard = none) (s x : Operand)
    (hop : o.op = .call { callee := .builtin .append, args := #[s, x], argTypes := #[22, 22] })
    (base : Nat) (v : Value) (l : List (Value × Int)) (n : Int) (ad : Option Addr) (rl cap : Nat) (w1 : World) (ln : Nat) (hln : l.length = ln) (ho : w1.ownsRow base 51 2 v ln (flat l)) (hl : ln ≤ 1000000) (hb : base ≤ w1.heap.size)
    (hs : a.eval s = v) (hx : a.eval x = .slice (some ⟨w1.heap.size, 0, none⟩) 1 1)
    (h : ∀ g cap2 w2, w2.ownsRow base 51 2 (.slice (some ⟨g, 0, none⟩) (ln + 1) cap2) (ln + 1) (flat (l ++ [(.slice ad rl cap, n)])) → (w1.alloc (.cells #[.slice ad rl cap, .int .i64 n] 51)).grownBy w2 v.ownBlock → (v.ownBlock = some g ∨ g = w1.heap.size + 1) → g < w2.heap.size → K (a.put o.dst (.slice (some ⟨g, 0, none⟩) (ln + 1) cap2)) w2) :
    if Region.wanted o (yielded ops a.tmps) = true then Oper.wp Try.prog o a (w1.alloc (.cells #[.slice ad rl cap, .int .i64 n] 51)) K Q else E := by
  obtain ⟨i0, hi, hz0, hz1, hz2⟩ := info_parts infoC
  refine step_append_lies _ hgd s x 22 hop base 51 i0 (.agg #[.slice none 0 0, .int .i64 0]) 2 32 Try.underlying22 hi hz0 hz1 hz2 rfl (by decide) v ln (flat l) hs
    (ho.alloc _) ⟨w1.heap.size, 0, none⟩ 1 1 [.slice ad rl cap, .int .i64 n] hx rfl (cell_two_new _ _ _ _) (by intro u hu; simp at hu; rcases hu with rfl | rfl <;> rfl) (by decide) (by unfold maxLen; omega) (by omega) (by simp; omega) (w1.heap.size + 1) (by simp) ?_
  intro g cap2 w2 h2 h3 h4 h5
  exact h g cap2 w2 (by rw [flat_snoc]; exact h2) h3 h4 h5
theorem far_cell {w1 w2 : World} {o : Obj} {row : Option Nat} {C : Nat} {v : Value} (hg : (w1.alloc o).grownBy w2 row) (hc : w1.cell? ⟨C, 0, none⟩ = some v) (hne : row ≠ some C) : w2.cell? ⟨C, 0, none⟩ = some v := by
  have hlt := World.block_lt_of_cell? _ _ hc
  refine hg.cell ?_ (fun h => hne h.symm)
  rw [World.cell?_alloc_lt]
  · exact hc
  · exact hlt
theorem far_frozen {w1 w2 : World} {o : Obj} {row : Option Nat} {C : Nat} {v : Value} (hg : (w1.alloc o).grownBy w2 row) (hc : w1.cell? ⟨C, 0, none⟩ = some v) (hne : row ≠ some C) (hf : w1.frozen? ⟨C, 0, none⟩ = false) : w2.frozen? ⟨C, 0, none⟩ = false := by
  have hlt := World.block_lt_of_cell? _ _ hc
  have hlt' : C < w1.heap.size := hlt
  rw [hg.frozen_far ⟨C, 0, none⟩ (by simp; omega) (fun h => hne h.symm)]
  have hb := ((Below.refl w1.heap.size w1).alloc (Nat.le_refl _) o).frozen (p := ⟨C, 0, none⟩) hlt'
  exact hb.trans hf

set_option maxRecDepth 10000 in
set_option maxHeartbeats 4000000 in
theorem tell_any (C base : Nat) (k : ByteArray) (n : Int) (v : Value) (l : List (Value × Int)) (r : List Cel) (w : World) (hc : w.cell? ⟨C, 0, none⟩ = some v) (hf : w.frozen? ⟨C, 0, none⟩ = false)
    (ho : w.ownsRow base 51 2 v l.length (flat l)) (hCv : v.ownBlock ≠ some C) (hl : l.length ≤ 1000000) (hb : base ≤ w.heap.size) (hr : rowOk r) (hk : encR r = k.data.toList) (hkl : k.size ≤ maxLen) :
    Calls Try.prog 49 #[.string k, .int .i64 n, .pointer (some ⟨C, 0, none⟩)] w fun e w' => e = .returned (.tuple #[]) ∧ ∃ w1 w2 ad cap g cap2,
      Below w.drew.heap.size w.drew w1 ∧ ownV w1 w.heap.size (.slice ad r.length cap) r ∧ w2.ownsRow base 51 2 (.slice (some ⟨g, 0, none⟩) (l.length + 1) cap2) (l.length + 1) (flat (l ++ [(.slice ad r.length cap, n)])) ∧
      (w1.alloc (.cells #[.slice ad r.length cap, .int .i64 n] 51)).grownBy w2 v.ownBlock ∧ (v.ownBlock = some g ∨ g = w1.heap.size + 1) ∧ w' = w2.setCell ⟨C, 0, none⟩ (.slice (some ⟨g, 0, none⟩) (l.length + 1) cap2) := by
  have hclt := World.block_lt_of_cell? _ _ hc
  have HF := fresh_any r k w.drew hr hk hkl
  obtain ⟨rl, hrl⟩ : ∃ x, r.length = x := ⟨_, rfl⟩
  have HRL : Hid (r.length = rl) := hrl
  rw [hrl] at HF
  obtain ⟨ln, hln⟩ : ∃ x, l.length = x := ⟨_, rfl⟩
  have HLN : Hid (l.length = ln) := hln
  rw [hln] at ho hl
  obtain ⟨i0, hi, hz0, hz1, hz2⟩ := info_parts infoC
  have HI : Hid (Try.prog.info? 51 = some i0 ∧ i0.zero = some (.agg #[.slice none 0 0, .int .i64 0]) ∧ i0.size = 2 ∧ i0.bytes = 32) := ⟨hi, hz0, hz1, hz2⟩
  have HFF : Hid (Calls Try.prog 32 #[.string k] w.drew fun e w' => (∃ ad cap, e = .returned (.slice ad rl cap) ∧ ownV w' w.drew.heap.size (.slice ad rl cap) r) ∧ Below w.drew.heap.size w.drew w') := HF
  have HO : Hid (w.drew.ownsRow base 51 2 v ln (flat l)) := ho.drew
  clear HF hrl hln hi hz0 hz1 hz2 ho
  go_enter Try.func49, Try.ntmps49
  go_wp2
  go_region_law (first
      | (refine step_app (by rfl) (.tmp 5) (.tmp 10) (by rfl) base v l n ad rl cap w1 ln HLN.out HO1.out hl (Nat.le_trans hb hb1.size) (by rfl) (by rfl) ?_; intro g cap2 w2 hown2 hgrow2 hat2 hlt2; have hc2 : w2.cell? ⟨C, 0, none⟩ = some v := far_cell hgrow2 hc1 hCv; have hf2 : w2.frozen? ⟨C, 0, none⟩ = false := far_frozen hgrow2 hc1 hCv ((hb1.frozen (p := ⟨C, 0, none⟩) hclt).trans hf))
      | (go_simp; go_at_call 32; refine HFF.out.mono ?_; rintro e w1 ⟨⟨ad, cap, rfl, hov⟩, hb1⟩; have hc1 : w1.cell? ⟨C, 0, none⟩ = some v := cell_later hb1 hc; have hc1a : ∀ o, (w1.alloc o).cell? ⟨C, 0, none⟩ = some v := fun o => cell_later ((Below.refl _ _).alloc (Nat.le_refl _) o) hc1; have HO1 : Hid (w1.ownsRow base 51 2 v ln (flat l)) := own_below HO.out hb1))
  all_goals
    go_wp2
    go_end0
    refine ⟨rfl, w1, w2, ad, cap, g, cap2, hb1, ?_, ?_, ?_, hat2, ?_⟩
    · rw [HRL.out]; exact hov
    · rw [HLN.out, HRL.out]; exact hown2
    · rw [HRL.out]; exact hgrow2
    · rw [HLN.out]
end Go.Proofs.Ytkjiaeolodemlaf.ch
