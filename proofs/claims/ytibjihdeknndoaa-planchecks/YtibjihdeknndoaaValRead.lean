/- Back reads the row of a key, and finds that other bytes are no key. -/
import Derived.Test.YtibjihdeknndoaaValCell
namespace Go.Proofs.Ytibjihdeknndoaa.vl
open Go.ChangeShapes Go.WideShapes Go.ChangeAt Go.RowKit
set_option linter.unusedVariables false
set_option linter.unusedSimpArgs false

theorem Try.infoV : (Try.prog.info? 60).map (fun i => (i.zero, i.size, i.bytes)) = some (some (.agg #[.int .i64 0, .int .i64 0, .string ⟨#[]⟩]), 3, 32) := by kernel_rfl

def celCells (r : List Cel) : List Value := r.flatMap fun c => [.int .i64 c.k, .int .i64 c.n, .string c.s]
theorem celCells_len (r : List Cel) : (celCells r).length = r.length * 3 := by
  induction r with
  | nil => rfl
  | cons c r ih => show ([_, _, _] ++ celCells r).length = _; rw [List.length_append, ih, List.length_cons]; simp; omega
theorem celCells_snoc (r : List Cel) (c : Cel) : celCells (r ++ [c]) = celCells r ++ [.int .i64 c.k, .int .i64 c.n, .string c.s] := by
  unfold celCells; rw [List.flatMap_append]; simp
theorem celCells_at (r : List Cel) (i : Nat) (h : i < r.length) : (celCells r)[i * 3]? = some (.int .i64 (r.getD i default).k) ∧ (celCells r)[i * 3 + 1]? = some (.int .i64 (r.getD i default).n) ∧ (celCells r)[i * 3 + 2]? = some (.string (r.getD i default).s) := by
  induction r generalizing i with
  | nil => exact absurd h (Nat.not_lt_zero i)
  | cons c r ih =>
    have e : celCells (c :: r) = .int .i64 c.k :: .int .i64 c.n :: .string c.s :: celCells r := rfl
    rw [e]
    cases i with
    | zero => exact ⟨rfl, rfl, rfl⟩
    | succ i =>
      have := ih i (by simpa using h)
      rw [show (i + 1) * 3 = i * 3 + 1 + 1 + 1 by omega]
      simpa using this

/-- v is a row of one's own -/
def ownV (w : World) (base : Nat) (v : Value) (r : List Cel) : Prop := w.ownsRow base 60 3 v r.length (celCells r)
theorem ownV_alloc {w : World} {base : Nat} {v : Value} {r : List Cel} (h : ownV w base v r) (o : Obj) : ownV (w.alloc o) base v r := World.ownsRow.alloc h o
theorem ownV_below {w w' : World} {base : Nat} {v : Value} {r : List Cel} (h : ownV w base v r) (hb : Below w.heap.size w w') : ownV w' base v r := by
  refine ⟨h.1, ?_⟩
  rcases h.2 with h0 | ⟨g, cap, cur, hv, h1, hg, h2⟩
  · exact .inl h0
  · have hlt : g < w.heap.size := by
      rcases Nat.lt_or_ge g w.heap.size with hlt | hge
      · exact hlt
      · rw [Array.getElem?_eq_none hge] at hg; cases hg
    exact .inr ⟨g, cap, cur, hv, h1, by rw [hb.block g hlt]; exact hg, h2⟩
theorem ownV_form {w : World} {base : Nat} {v : Value} {r : List Cel} (h : ownV w base v r) : ∃ ad cap, v = .slice ad r.length cap := by
  rcases h.2 with ⟨rfl, h0⟩ | ⟨g, cap, cur, rfl, _⟩
  · exact ⟨none, 0, by rw [h0]⟩
  · exact ⟨_, _, rfl⟩
/-- such a row lies where its slice begins -/
theorem ownV_row {w : World} {base : Nat} {ad : Option Addr} {cap : Nat} {r : List Cel} (h : ownV w base (.slice ad r.length cap) r) : rowAt w ad r := by
  intro i hi
  rcases h.2 with ⟨hv, h0⟩ | ⟨g, cap', cur, hv, h1, hg, h2⟩
  · omega
  · cases hv
    have hc := World.ownsRow.cells h (g := g) rfl
    obtain ⟨x1, x2, x3⟩ := celCells_at r i hi
    have hadd : ∀ j, ((⟨g, 0, none⟩ : Addr).add j) = ⟨g, 0 + j, none⟩ := fun j => by unfold Addr.add; split <;> simp_all
    refine ⟨g, 0, rfl, ?_, ?_, ?_⟩
    · have := hc _ _ x1; rw [hadd] at this; exact this
    · have := hc _ _ x2; rw [hadd] at this; exact this
    · have := hc _ _ x3; rw [hadd] at this; exact this

theorem cell_three_new (w : World) (a b c : Value) (t : TypeId) : ∀ j u, [a, b, c][j]? = some u → (w.alloc (.cells #[a, b, c] t)).cell? ((⟨w.heap.size, 0, none⟩ : Addr).add j) = some u := by
  intro j u hj
  match j, hj with
  | 0, hj => simp at hj; subst hj; simp [Addr.add]
  | 1, hj => simp at hj; subst hj; simp [Addr.add]
  | 2, hj => simp at hj; subst hj; simp [Addr.add]

/-- 'append(row, v)' -/
theorem append_cell {ops : Array Oper} {rest : List Oper} {o : Oper} {a : Act} {Q : Exit → Act → World → Prop} (hgd : o.guard = none) (s x : Operand)
    (ho : o.op = .call { callee := .builtin .append, args := #[s, x], argTypes := #[34, 34] }) (base : Nat) (v : Value) (r : List Cel) (hs : a.eval s = v) (w0 : World)
    (hown : ownV w0 base v r) (c : Cel) (B : Nat) (hB : w0.heap.size = B) (hx : a.eval x = .slice (some ⟨B, 0, none⟩) 1 1) (hl : r.length ≤ 1000000) (hb : base ≤ w0.heap.size)
    (h : ∀ v' w', ownV w' base v' (r ++ [c]) → (w0.alloc (.cells #[.int .i64 c.k, .int .i64 c.n, .string c.s] 60)).grownBy w' v.ownBlock → wpList Try.prog ops Q rest (a.put o.dst v') w') :
    wpList Try.prog ops Q (o :: rest) a (w0.alloc (.cells #[.int .i64 c.k, .int .i64 c.n, .string c.s] 60)) := by
  subst hB
  obtain ⟨i0, hi, hz0, hz1, hz2⟩ := info_parts Try.infoV
  refine wpList_append_own _ hgd s x 34 ho base 60 i0 (.agg #[.int .i64 0, .int .i64 0, .string ⟨#[]⟩]) 3 32 Try.underlying34 hi hz0 hz1 hz2 rfl (by decide) v r.length (celCells r) hs
    (World.ownsRow.alloc hown _) ⟨w0.heap.size, 0, none⟩ 1 1 [.int .i64 c.k, .int .i64 c.n, .string c.s] hx rfl (cell_three_new _ _ _ _ _) (by intro u hu; simp at hu; rcases hu with rfl | rfl | rfl <;> rfl) (by unfold maxLen; omega) (by omega) (by simp; omega) ?_
  intro v' w' h1 h2 _
  refine h v' w' ?_ h2
  unfold ownV
  rw [List.length_append, celCells_snoc]
  exact h1
theorem below_appendV {base : Nat} {w w0 w' : World} {v : Value} {r : List Cel} {o : Obj} (hb : Below base w w0) (h0 : base ≤ w0.heap.size) (hown : ownV w0 base v r) (hg : (w0.alloc o).grownBy w' v.ownBlock) : Below base w w' :=
  (hb.alloc h0 o).grown hg (by simp; omega) (fun k hk => (World.ownsRow.lt hown k hk).1)

/-! ### a row is read off its key in one way -/
theorem encR_split (x r : List Cel) (tail : List UInt8) (hx : ∀ c ∈ x, c.ok ∧ c.wf) (hr : ∀ c ∈ r, c.ok ∧ c.wf) (h : encR x ++ tail = encR r) : ∃ r2, r = x ++ r2 ∧ tail = encR r2 := by
  induction x generalizing r with
  | nil => exact ⟨r, rfl, h⟩
  | cons c x ih =>
    have e : encR (c :: x) = encC c ++ encR x := rfl
    rw [e, List.append_assoc] at h
    have hc := hx c (List.mem_cons_self ..)
    cases r with
    | nil =>
      have := encC_ne hc.1
      simp [encR] at h
      exact absurd h.1 this
    | cons d r =>
      have e2 : encR (d :: r) = encC d ++ encR r := rfl
      rw [e2] at h
      have hd := hr d (List.mem_cons_self ..)
      obtain ⟨rfl, h2⟩ := encC_inj hc.1 hd.1 hc.2 hd.2 h
      obtain ⟨r2, e3, e4⟩ := ih r (fun y hy => hx y (List.mem_cons_of_mem _ hy)) (fun y hy => hr y (List.mem_cons_of_mem _ hy)) h2
      exact ⟨r2, by rw [e3]; rfl, e4⟩

/-- r is a row that has a key -/
def rowOk (r : List Cel) : Prop := r.length ≤ 8 ∧ ∀ c ∈ r, c.ok ∧ c.wf
/-- these bytes are no key -/
def noKey (l : List UInt8) : Prop := ∀ r, rowOk r → encR r ≠ l
theorem noKey_cell {x : List Cel} {l tail : List UInt8} (hx : ∀ c ∈ x, c.ok ∧ c.wf) (hl : l = encR x ++ tail) (hne : tail ≠ []) (hn : noCell tail) : noKey l := by
  intro r hr h
  rw [hl] at h
  obtain ⟨r2, e1, e2⟩ := encR_split x r tail hx hr.2 h.symm
  cases r2 with
  | nil => exact hne e2
  | cons d r2 =>
    have hd := hr.2 d (by rw [e1]; simp)
    exact hn d (encR r2) hd.1 hd.2 e2
theorem noKey_long {x : List Cel} {l tail : List UInt8} (hx : ∀ c ∈ x, c.ok ∧ c.wf) (hl : l = encR x ++ tail) (hne : tail ≠ []) (h8 : x.length = 8) : noKey l := by
  intro r hr h
  rw [hl] at h
  obtain ⟨r2, e1, e2⟩ := encR_split x r tail hx hr.2 h.symm
  cases r2 with
  | nil => exact hne e2
  | cons d r2 =>
    have := hr.1
    rw [e1, List.length_append, List.length_cons] at this
    omega
end Go.Proofs.Ytibjihdeknndoaa.vl
