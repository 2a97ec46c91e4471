/- The rows and the numbers that the document's DiffOf gathers, in memory. -/
import Derived.Test.YtkjiaeolodemlafChgMerge
namespace Go.Proofs.Ytkjiaeolodemlaf.ch
open Go.ChangeShapes Go.WideShapes Go.ChangeAt Go.RowKit Go.Maps Go.WideMaps
open vl
set_option linter.unusedVariables false
set_option linter.unusedSimpArgs false

theorem infoR : (Try.prog.info? 49).map (fun i => (i.zero, i.size, i.bytes)) = some (some (.slice none 0 0), 1, 24) := by kernel_rfl
theorem infoI : (Try.prog.info? 3).map (fun i => (i.zero, i.size, i.bytes)) = some (some (.int .i64 0), 1, 8) := by kernel_rfl
theorem wpList_appR {ops : Array Oper} {rest : List Oper} {o : Oper} {a : Act} {Q : Exit → Act → World → Prop} (hgd : o.guard = none) (s y : Operand)
    (hop : o.op = .call { callee := .builtin .append, args := #[s, y], argTypes := #[46, 46] })
    (base : Nat) (v : Value) (m : Nat) (vs : List Value) (x : Value) (w1 : World) (ho : w1.ownsRow base 49 1 v m vs) (hx1 : x.oneCell' = true) (hl : m ≤ 1000000) (hb : base ≤ w1.heap.size)
    (hs : a.eval s = v) (hx : a.eval y = .slice (some ⟨w1.heap.size, 0, none⟩) 1 1)
    (h : ∀ g cap2 w2, w2.ownsRow base 49 1 (.slice (some ⟨g, 0, none⟩) (m + 1) cap2) (m + 1) (vs ++ [x]) → (w1.alloc (.cells #[x] 49)).grownBy w2 v.ownBlock → (v.ownBlock = some g ∨ g = w1.heap.size + 1) → g < w2.heap.size → wpList Try.prog ops Q rest (a.put o.dst (.slice (some ⟨g, 0, none⟩) (m + 1) cap2)) w2) :
    wpList Try.prog ops Q (o :: rest) a (w1.alloc (.cells #[x] 49)) := by
  obtain ⟨i0, hi, hz0, hz1, hz2⟩ := info_parts infoR
  exact wpList_append_lies _ hgd s y 46 hop base 49 i0 (.slice none 0 0) 1 24 Try.underlying46 hi hz0 hz1 hz2 rfl (by decide) v m vs hs
    (ho.alloc _) ⟨w1.heap.size, 0, none⟩ 1 1 [x] hx rfl (cell_one_new _ _ _) (by intro u hu; rw [List.mem_singleton.1 hu]; exact hx1) (by decide) (by unfold maxLen; omega) (by omega) (by simp; omega) (w1.heap.size + 1) (by simp) h
theorem wpList_appN {ops : Array Oper} {rest : List Oper} {o : Oper} {a : Act} {Q : Exit → Act → World → Prop} (hgd : o.guard = none) (s y : Operand)
    (hop : o.op = .call { callee := .builtin .append, args := #[s, y], argTypes := #[47, 47] })
    (base : Nat) (v : Value) (m : Nat) (vs : List Value) (d : Int) (w1 : World) (ho : w1.ownsRow base 3 1 v m vs) (hl : m ≤ 1000000) (hb : base ≤ w1.heap.size)
    (hs : a.eval s = v) (hx : a.eval y = .slice (some ⟨w1.heap.size, 0, none⟩) 1 1)
    (h : ∀ g cap2 w2, w2.ownsRow base 3 1 (.slice (some ⟨g, 0, none⟩) (m + 1) cap2) (m + 1) (vs ++ [.int .i64 d]) → (w1.alloc (.cells #[.int .i64 d] 3)).grownBy w2 v.ownBlock → (v.ownBlock = some g ∨ g = w1.heap.size + 1) → g < w2.heap.size → wpList Try.prog ops Q rest (a.put o.dst (.slice (some ⟨g, 0, none⟩) (m + 1) cap2)) w2) :
    wpList Try.prog ops Q (o :: rest) a (w1.alloc (.cells #[.int .i64 d] 3)) := by
  obtain ⟨i0, hi, hz0, hz1, hz2⟩ := info_parts infoI
  exact wpList_append_lies _ hgd s y 47 hop base 3 i0 (.int .i64 0) 1 8 Try.underlying47 hi hz0 hz1 hz2 rfl (by decide) v m vs hs
    (ho.alloc _) ⟨w1.heap.size, 0, none⟩ 1 1 [.int .i64 d] hx rfl (cell_one_new _ _ _) (by intro u hu; rw [List.mem_singleton.1 hu]; rfl) (by decide) (by unfold maxLen; omega) (by omega) (by simp; omega) (w1.heap.size + 1) (by simp) h

def numV (M : List Cnt) : List Value := M.map fun c => .int .i64 c.n
def rowV (w0 : World) (vs : List Value) (M : List Cnt) : Prop := ∀ i, i < M.length → ∃ ra rc, vs[i]? = some (.slice ra (M.getD i default).r.length rc) ∧ vl.rowAt w0 ra (M.getD i default).r
structure DS (w0 wr : World) (vR vN : Value) (M : List Cnt) : Prop where
  low : w0.heap.size ≤ wr.heap.size
  nums : wr.ownsRow w0.heap.size 3 1 vN M.length (numV M)
  rows : ∃ vs, wr.ownsRow w0.heap.size 49 1 vR M.length vs ∧ rowV w0 vs M
  apart : ∀ g, vR.ownBlock = some g → vN.ownBlock ≠ some g
theorem DS_start {w0 wr : World} (h : w0.heap.size ≤ wr.heap.size) : DS w0 wr (.slice none 0 0) (.slice none 0 0) [] :=
  ⟨h, World.ownsRow_nil _ _ _ _, ⟨[], World.ownsRow_nil _ _ _ _, fun i hi => absurd hi (Nat.not_lt_zero i)⟩, fun g e => by cases e⟩
theorem DS_below {w0 wr w' : World} {vR vN : Value} {M : List Cnt} (h : DS w0 wr vR vN M) (hb : Below wr.heap.size wr w') : DS w0 w' vR vN M := by
  obtain ⟨vs, h1, h2⟩ := h.rows
  exact ⟨Nat.le_trans h.low hb.size, own_below h.nums hb, ⟨vs, own_below h1 hb, h2⟩, h.apart⟩
theorem DS_mid {w0 wr w2 : World} {vR vN : Value} {M : List Cnt} {o : Obj} (h : DS w0 wr vR vN M) (hg : (wr.alloc o).grownBy w2 vR.ownBlock) : w2.ownsRow w0.heap.size 3 1 vN M.length (numV M) := by
  refine own_same h.nums (fun b hb => ?_)
  have hlt := (own_lt h.nums hb).2
  rw [hg.block b (by simp; omega) (fun e => h.apart b e.symm hb)]
  exact Below.heap_alloc _ _ b hlt
theorem DS_step {w0 wr w2 w3 : World} {vR vN : Value} {M : List Cnt} {vs : List Value} {ra : Option Addr} {rc g cap g' cap' : Nat} {r : List Cel} {d : Int} (h : DS w0 wr vR vN M) (hvs : wr.ownsRow w0.heap.size 49 1 vR M.length vs) (hrv : rowV w0 vs M) (hr : vl.rowAt w0 ra r)
    (hown2 : w2.ownsRow w0.heap.size 49 1 (.slice (some ⟨g, 0, none⟩) (M.length + 1) cap) (M.length + 1) (vs ++ [.slice ra r.length rc])) (hg2 : (wr.alloc (.cells #[.slice ra r.length rc] 49)).grownBy w2 vR.ownBlock) (hat2 : vR.ownBlock = some g ∨ g = wr.heap.size + 1)
    (hown3 : w3.ownsRow w0.heap.size 3 1 (.slice (some ⟨g', 0, none⟩) (M.length + 1) cap') (M.length + 1) (numV M ++ [.int .i64 d])) (hg3 : (w2.alloc (.cells #[.int .i64 d] 3)).grownBy w3 vN.ownBlock) (hat3 : vN.ownBlock = some g' ∨ g' = w2.heap.size + 1) :
    DS w0 w3 (.slice (some ⟨g, 0, none⟩) (M.length + 1) cap) (.slice (some ⟨g', 0, none⟩) (M.length + 1) cap') (M ++ [⟨r, d⟩]) ∧ Below w0.heap.size wr w3 := by
  have hlow := h.low
  have hs2 : wr.heap.size + 1 ≤ w2.heap.size := by have := hg2.size; simpa using this
  have hs3 : w2.heap.size + 1 ≤ w3.heap.size := by have := hg3.size; simpa using this
  have hRlt : ∀ b, vR.ownBlock = some b → w0.heap.size ≤ b ∧ b < wr.heap.size := fun b hb => own_lt hvs hb
  have hNlt : ∀ b, vN.ownBlock = some b → w0.heap.size ≤ b ∧ b < wr.heap.size := fun b hb => own_lt h.nums hb
  have hglt := (own_lt hown2 (g := g) rfl).2
  have hgN : vN.ownBlock ≠ some g := by
    rcases hat2 with h1 | h1
    · exact h.apart g h1
    · intro e; have := (hNlt g e).2; omega
  have hbw : Below w0.heap.size wr w3 := by
    have b1 : Below w0.heap.size wr w2 := ((Below.refl w0.heap.size wr).alloc hlow _).grown hg2 (by simp; omega) (fun b hb => (hRlt b hb).1)
    exact (b1.alloc (by omega) _).grown hg3 (by simp; omega) (fun b hb => (hNlt b hb).1)
  have hML : (M ++ [(⟨r, d⟩ : Cnt)]).length = M.length + 1 := by rw [List.length_append, List.length_singleton]
  refine ⟨⟨Nat.le_trans hlow hbw.size, ?_, ⟨vs ++ [.slice ra r.length rc], ?_, ?_⟩, ?_⟩, hbw⟩
  · rw [hML]
    have e : numV (M ++ [⟨r, d⟩]) = numV M ++ [.int .i64 d] := by unfold numV; rw [List.map_append]; rfl
    rw [e]; exact hown3
  · rw [hML]
    refine own_same hown2 (fun b hb => ?_)
    have hbg : b = g := by cases hb; rfl
    subst hbg
    rw [hg3.block b (by simp; omega) (fun e => hgN e.symm)]
    exact Below.heap_alloc _ _ b hglt
  · have hvl : vs.length = M.length := by have := hvs.1; omega
    intro i hi
    rw [hML] at hi
    by_cases hlt : i < M.length
    · obtain ⟨ra', rc', e1, e2⟩ := hrv i hlt
      rw [getD_snoc_lt M _ _ i hlt]
      exact ⟨ra', rc', by rw [List.getElem?_append_left (by omega)]; exact e1, e2⟩
    · have hie : i = M.length := by omega
      rw [getD_snoc_at M _ _ i hie]
      exact ⟨ra, rc, by rw [List.getElem?_append_right (by omega), hie, hvl, Nat.sub_self]; rfl, hr⟩
  · intro b hb e
    have hbg : b = g := by cases hb; rfl
    have hbg' : b = g' := by cases e; rfl
    subst hbg
    rcases hat3 with h1 | h1
    · rw [← hbg'] at h1; exact hgN h1
    · omega
theorem DS_form {w0 wr : World} {vR vN : Value} {M : List Cnt} (h : DS w0 wr vR vN M) (hb : Below w0.heap.size w0 wr) : ∃ aR cR aN cN, vR = .slice aR M.length cR ∧ vN = .slice aN M.length cN ∧ rowsAt wr aR M ∧ numsAt wr aN M := by
  obtain ⟨vs, h1, h2⟩ := h.rows
  obtain ⟨aR, cR, e1, q1⟩ := row_form h1
  obtain ⟨aN, cN, e2, q2⟩ := row_form h.nums
  subst e1 e2
  refine ⟨aR, cR, aN, cN, rfl, rfl, ?_, ?_⟩
  · intro i hi
    obtain ⟨g, rfl⟩ := q1 (by omega)
    obtain ⟨ra, rc, e, hr⟩ := h2 i hi
    have hc := World.ownsRow.cells h1 (g := g) rfl i _ e
    rw [addr_add] at hc
    exact ⟨g, 0, ra, rc, rfl, hc, rowAt_below hr hb⟩
  · intro i hi
    obtain ⟨g, rfl⟩ := q2 (by omega)
    have hc := World.ownsRow.cells h.nums (g := g) rfl i (.int .i64 (M.getD i default).n) (by
      unfold numV
      rw [List.getElem?_map, List.getElem?_eq_getElem hi, List.getD_eq_getElem?_getD, List.getElem?_eq_getElem hi]; rfl)
    rw [addr_add] at hc
    exact ⟨g, 0, rfl, hc⟩
end Go.Proofs.Ytkjiaeolodemlaf.ch
