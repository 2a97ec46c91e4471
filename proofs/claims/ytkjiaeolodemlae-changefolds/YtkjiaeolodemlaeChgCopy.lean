/- The document's Copy: a row of its own; and SameChanges: are two lists of changes the same? -/
import Derived.Test.YtkjiaeolodemlaeChgSame
namespace Go.Proofs.Ytkjiaeolodemlae.ch
open Go.ChangeShapes Go.WideShapes Go.ChangeAt Go.RowKit Go.Maps Go.WideMaps
open vl
set_option linter.unusedVariables false
set_option linter.unusedSimpArgs false

instance : DecidableEq Chg := fun a b => if h : a.k = b.k ∧ a.r = b.r then isTrue (by cases a; cases b; simp at h; simp [h]) else isFalse (fun e => h (by rw [e]; exact ⟨rfl, rfl⟩))
theorem take_eq_chg {r1 r2 : List Chg} {k : Nat} (h1 : k < r1.length) (h2 : k < r2.length) (h : r1.take k = r2.take k) (hk : r1.getD k default = r2.getD k default) : r1.take (k + 1) = r2.take (k + 1) := by
  rw [takeC r1 k h1, takeC r2 k h2, h, hk]
theorem ne_chg {r1 r2 : List Chg} {k : Nat} (hk : r1.getD k default ≠ r2.getD k default) : decide (r1 = r2) = false := decide_eq_false (fun e => hk (by rw [e]))

theorem run_append_none {w : World} (base : Nat) (t ty e : TypeId) (i : TypeInfo) (size c : Nat) (ht : Try.prog.underlying t = some (.slice e)) (hi : Try.prog.info? e = some i)
    (v : Value) (n : Nat) (xs : List Value) (hown : w.ownsRow base e size v n xs) : (Builtin.append_ #[t, t] ty #[v, .slice none 0 c]).run Try.prog w = .ok v w := by
  rcases hown.2 with ⟨rfl, rfl⟩ | ⟨g, cap, cur, rfl, _, _, hnc, _⟩
  · simp [Builtin.append_, run_underlying ht, sizeOf, typeInfo, hi, Builtin.lenOf, Builtin.firstCells]
  · simp [Builtin.append_, run_underlying ht, sizeOf, typeInfo, hi, Builtin.lenOf, Builtin.firstCells, hnc, storeCells]
theorem wpList_append_none {w : World} {ops : Array Oper} {rest : List Oper} {o : Oper} {a : Act} {Q : Exit → Act → World → Prop} (hgd : o.guard = none) (s x : Operand) (t : TypeId)
    (ho : o.op = .call { callee := .builtin .append, args := #[s, x], argTypes := #[t, t] }) (base : Nat) (e : TypeId) (i : TypeInfo) (size c : Nat) (ht : Try.prog.underlying t = some (.slice e)) (hi : Try.prog.info? e = some i)
    (v : Value) (n : Nat) (xs : List Value) (hs : a.eval s = v) (hown : w.ownsRow base e size v n xs) (hx : a.eval x = .slice none 0 c)
    (h : wpList Try.prog ops Q rest (a.put o.dst v) w) : wpList Try.prog ops Q (o :: rest) a w := by
  refine wpList_plain hgd fun K hK => ?_
  have hrun := run_append_none (w := w) base t o.type e i size c ht hi v n xs hown
  unfold Oper.wp
  simp [execOp, ho, resolve, invoke, builtin, hs, hx, hrun, Result.andThen]
  exact hK _ _ h
theorem add_at (b off j : Nat) : (⟨b, off, none⟩ : Addr).add j = ⟨b, off + j, none⟩ := by unfold Addr.add; split <;> simp_all
theorem rowAt_cells {w : World} {b off : Nat} {r : List Cel} (h : vl.rowAt w (some ⟨b, off, none⟩) r) : ∀ j u, (celCells r)[j]? = some u → w.cell? ((⟨b, off, none⟩ : Addr).add j) = some u := by
  intro j u hu
  have hlen : j < (celCells r).length := by
    rcases Nat.lt_or_ge j (celCells r).length with h | h
    · exact h
    · rw [List.getElem?_eq_none h] at hu; cases hu
  rw [celCells_len] at hlen
  have hi : j / 3 < r.length := by omega
  obtain ⟨b', o', e, x1, x2, x3⟩ := h (j / 3) hi
  cases e
  obtain ⟨y1, y2, y3⟩ := celCells_at r (j / 3) hi
  rw [add_at]
  have hj : j = j / 3 * 3 ∨ j = j / 3 * 3 + 1 ∨ j = j / 3 * 3 + 1 + 1 := by omega
  rcases hj with e | e | e
  · rw [e] at hu ⊢; rw [y1] at hu; rw [← hu]; exact x1
  · rw [e] at hu ⊢; rw [y2] at hu; rw [← hu]; exact x2
  · rw [e] at hu ⊢; rw [y3] at hu; rw [← hu]; exact x3
theorem celCells_one (r : List Cel) : ∀ u ∈ celCells r, u.oneCell' = true := by
  intro u hu
  unfold celCells at hu
  obtain ⟨c, _, hc⟩ := List.mem_flatMap.1 hu
  simp at hc
  rcases hc with rfl | rfl | rfl <;> rfl

set_option maxHeartbeats 1000000 in
theorem copy_any (a : Option Addr) (cap : Nat) (r : List Cel) (w : World) (hr : vl.rowAt w a r) (hl : r.length ≤ 1000000) :
    Calls Try.prog 51 #[.slice a r.length cap] w fun e w' => (∃ ad c, e = .returned (.slice ad r.length c) ∧ ownV w' w.heap.size (.slice ad r.length c) r) ∧ Below w.heap.size w w' := by
  obtain ⟨i0, hi, hz0, hz1, hz2⟩ := info_parts Try.infoV
  have HI : Hid (Try.prog.info? 59 = some i0 ∧ i0.zero = some (.agg #[.int .i64 0, .int .i64 0, .string ⟨#[]⟩]) ∧ i0.size = 3 ∧ i0.bytes = 32) := ⟨hi, hz0, hz1, hz2⟩
  clear hi hz0 hz1 hz2
  have HOW : Hid ((w.alloc (.cells #[] 59)).ownsRow w.heap.size 59 3 (.slice (some ⟨w.heap.size, 0, none⟩) 0 0) 0 []) := World.ownsRow_made w #[] 0 (Nat.le_refl _) (Nat.zero_le _) rfl
  have hb0 : Below w.heap.size w (w.alloc (.cells #[] 59)) := (Below.refl _ _).alloc (Nat.le_refl _) _
  obtain ⟨n, hn⟩ : ∃ n, r.length = n := ⟨_, rfl⟩
  have HN : Hid (r.length = n) := hn
  cases a with
  | none =>
    have h0 : r = [] := by
      cases r with
      | nil => rfl
      | cons c r =>
        obtain ⟨_, _, e, _⟩ := hr 0 (by simp)
        cases e
    subst h0
    simp only [List.length_nil]
    clear hr hl hn HN
    go_enter Try.func51, Try.ntmps51
    go_wp2_with (at_builtin; refine wpList_append_none rfl (.tmp 3) (.tmp 4) 36 rfl w.heap.size 59 i0 3 cap Try.underlying36 HI.out.1 _ _ _ rfl HOW.out rfl ?_)
    go_ret
    exact ⟨⟨_, _, rfl, HOW.out⟩, hb0⟩
  | some x =>
    have hcel : ∀ j u, (celCells r)[j]? = some u → (w.alloc (.cells #[] 59)).cell? (x.add j) = some u := by
      intro j u hu
      have hlen : 0 < r.length := by
        rcases Nat.eq_zero_or_pos r.length with h | h
        · rw [List.length_eq_zero_iff.1 h] at hu; cases hu
        · exact h
      obtain ⟨b, o, e, _⟩ := hr 0 hlen
      cases e
      exact cell_later ((Below.refl _ _).alloc (Nat.le_refl _) _) (rowAt_cells hr j u hu)
    have HCE : Hid (∀ j u, (celCells r)[j]? = some u → (w.alloc (.cells #[] 59)).cell? (x.add j) = some u) := hcel
    rw [hn] at hl ⊢
    clear hcel hr hn
    go_enter Try.func51, Try.ntmps51
    go_wp2_with (at_builtin; refine wpList_append_own _ rfl (.tmp 3) (.tmp 4) 36 rfl w.heap.size 59 i0 (.agg #[.int .i64 0, .int .i64 0, .string ⟨#[]⟩]) 3 32 Try.underlying36 HI.out.1 HI.out.2.1 HI.out.2.2.1 HI.out.2.2.2 rfl (by decide) _ _ _ rfl HOW.out x n cap (celCells r) rfl (by rw [celCells_len, HN.out]) HCE.out (celCells_one r) (by unfold maxLen; omega) (by omega) (by simp) ?_; intro v2 w3 hown3 hgrow3 hnil3)
    rw [Nat.zero_add, List.nil_append] at hown3
    obtain ⟨ad, c2, hv, _⟩ := row_form hown3
    subst hv
    go_ret
    exact ⟨⟨ad, c2, rfl, by show w3.ownsRow _ _ _ _ r.length _; rw [HN.out]; exact hown3⟩, hb0.grown hgrow3 (by simp) (fun b hb => by cases hb; exact Nat.le_refl _)⟩
end Go.Proofs.Ytkjiaeolodemlae.ch
