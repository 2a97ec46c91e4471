/- Several texts in one: BatPure, BatTold, BatCheck, BatRows. -/
import Derived.Test.YtbfbgdinhiglaaaGreatMgPlnG
import Derived.Test.YtbfbgdinhiglaaaGreatMgPlnE
/- Rows with their times, in memory; what keeps rows from being joined (E3). -/
namespace Go.Proofs.YtbfbgdinhiglaaaGreat.bt
open Go.ChangeShapes Go.WideShapes Go.ChangeAt Go.RowKit
open vl pl
set_option linter.unusedVariables false
set_option linter.unusedSimpArgs false
/-- a row with its time -/
structure Stm where
  t : Int
  r : List Cel
instance : Inhabited Stm := ⟨⟨0, []⟩⟩
/-- a slice that begins at a has these rows with their times -/
def stmsAt (w : World) (a : Option Addr) (l : List Stm) : Prop :=
  ∀ i, i < l.length → ∃ b off ra rc, a = some ⟨b, off, none⟩ ∧ w.cell? ⟨b, off + i * 2, none⟩ = some (.int .i64 (l.getD i default).t) ∧ w.cell? ⟨b, off + i * 2 + 1, none⟩ = some (.slice ra (l.getD i default).r.length rc) ∧ vl.rowAt w ra (l.getD i default).r
theorem stmsAt_below {w w' : World} {a : Option Addr} {l : List Stm} (h : stmsAt w a l) (hb : Below w.heap.size w w') : stmsAt w' a l := by
  intro i hi
  obtain ⟨b, o, ra, rc, e, x, y, z⟩ := h i hi
  exact ⟨b, o, ra, rc, e, cell_later hb x, cell_later hb y, rowAt_below z hb⟩
def wfStms (l : List Stm) : Prop := ∀ s ∈ l, wfRow s.r ∧ s.r.length ≤ 9223372036854775807 ∧ i64 s.t
theorem wfs_at {l : List Stm} (h : wfStms l) (k : Nat) (hk : k < l.length) : wfRow (l.getD k default).r ∧ (l.getD k default).r.length ≤ 9223372036854775807 ∧ i64 (l.getD k default).t := h _ (getD_mem hk)
/-- do all times fit? -/
def fitsB (l : List Stm) : Bool := allB l.length (fun i => tm.fitB (l.getD i default).t)
/-- what is wrong with the first row that may not come in -/
def firstErr (p : Pln) (side : Int) : List Stm → Int
  | [] => 0
  | s :: l => if rErr p side s.r = 0 then firstErr p side l else rErr p side s.r
theorem firstErr_drop (p : Pln) (side : Int) (l : List Stm) (k : Nat) (h : ∀ i, i < k → rErr p side (l.getD i default).r = 0) : firstErr p side l = firstErr p side (l.drop k) := by
  induction k generalizing l with
  | zero => rfl
  | succ k ih =>
    cases l with
    | nil => rfl
    | cons s l =>
      have h0 : rErr p side s.r = 0 := h 0 (by omega)
      rw [firstErr, if_pos h0, List.drop_succ_cons]
      exact ih l (fun i hi => h (i + 1) (by omega))
theorem drop_stm (l : List Stm) (k : Nat) (h : k < l.length) : l.drop k = l.getD k default :: l.drop (k + 1) := by
  rw [List.drop_eq_getElem_cons h]; simp [List.getD_eq_getElem?_getD, h]
theorem firstErr_at {p : Pln} {side : Int} {l : List Stm} {k : Nat} (hk : k < l.length) (h : ∀ i, i < k → rErr p side (l.getD i default).r = 0) (hne : rErr p side (l.getD k default).r ≠ 0) : firstErr p side l = rErr p side (l.getD k default).r := by
  rw [firstErr_drop p side l k h, drop_stm l k hk, firstErr, if_neg hne]
theorem firstErr_end {p : Pln} {side : Int} {l : List Stm} {k : Nat} (hk : l.length ≤ k) (h : ∀ i, i < k → rErr p side (l.getD i default).r = 0) : firstErr p side l = 0 := by
  rw [firstErr_drop p side l k h, List.drop_of_length_le hk]; rfl
theorem firstErr_ok {p : Pln} {side : Int} {l : List Stm} (h : firstErr p side l = 0) : ∀ s ∈ l, rErr p side s.r = 0 := by
  induction l with
  | nil => intro s hs; cases hs
  | cons a l ih =>
    rw [firstErr] at h
    split at h
    · rename_i h0
      intro s hs
      rcases List.mem_cons.1 hs with rfl | hs
      · exact h0
      · exact ih h s hs
    · rename_i h0; exact absurd h h0
/-- E3: what keeps rows from being joined -/
def batchErr (p : Pln) (L R : List Stm) : Int :=
  if planErr p ≠ 0 then planErr p else if 120 < L.length + R.length then 2 else if fitsB L = false ∨ fitsB R = false then 3 else if firstErr p 1 L ≠ 0 then firstErr p 1 L else firstErr p 2 R
end Go.Proofs.YtbfbgdinhiglaaaGreat.bt

/- What a join tells, row by row (E1, E2): no Go in sight. -/
namespace Go.Proofs.YtbfbgdinhiglaaaGreat.bt
open vl pl
set_option linter.unusedVariables false
set_option linter.unusedSimpArgs false
/-- so many Nulls -/
def nullRow (n : Nat) : List Cel := List.replicate n ⟨0, 0, ⟨#[]⟩⟩
/-- E1: do the times of a left and a right row meet? (of no Temporal) -/
def meetT (p : Pln) (l r : Int) : Bool := if p.kind = 1 then tm.meetB l r p.low p.high else decide (tm.start l p.size = tm.start r p.size)
/-- has the right row at k this key? -/
def atKey (p : Pln) (R : List Stm) (key : ByteArray) (k : Nat) : Bool := hasB p 2 (R.getD k default).r && decide (keyOfS p 2 (R.getD k default).r = key)
def placesOf (p : Pln) (R : List Stm) (key : ByteArray) : List Nat := (List.range R.length).filter (atKey p R key)
/-- E2: the version, so far -/
def vstep (l : Int) (R : List Stm) (best : Option Nat) (k : Nat) : Option Nat :=
  if l < (R.getD k default).t then best else
    match best with
    | none => some k
    | some b => if (R.getD b default).t ≤ (R.getD k default).t then some k else some b
def versionOf (l : Int) (R : List Stm) (ks : List Nat) : Option Nat := ks.foldl (vstep l R) none
/-- where the right rows stand that a left row is joined with -/
def partners (p : Pln) (l : Stm) (R : List Stm) : List Nat :=
  if hasB p 1 l.r = false then [] else
    if p.kind = 3 then (versionOf l.t R (placesOf p R (keyOfS p 1 l.r))).toList else (placesOf p R (keyOfS p 1 l.r)).filter (fun k => meetT p l.t (R.getD k default).t)
def keepsL (p : Pln) : Bool := decide (p.mode = 2 ∨ p.mode = 4)
def keepsR (p : Pln) : Bool := decide (p.mode = 3 ∨ p.mode = 4)
/-- what a left row brings -/
def toldL (p : Pln) (R : List Stm) (l : Stm) : List (List Cel) :=
  (partners p l R).map (fun k => l.r ++ (R.getD k default).r) ++ (if partners p l R = [] ∧ keepsL p = true then [l.r ++ nullRow p.right.length] else [])
def metB (p : Pln) (L R : List Stm) (k : Nat) : Bool := L.any fun l => (partners p l R).contains k
def toldR (p : Pln) (L R : List Stm) (k : Nat) : List (List Cel) := if metB p L R k = false ∧ keepsR p = true then [nullRow p.left.length ++ (R.getD k default).r] else []
/-- all rows that are told, in order -/
def told (p : Pln) (L R : List Stm) : List (List Cel) := L.flatMap (toldL p R) ++ (List.range R.length).flatMap (toldR p L R)

theorem foldl_filter {α β : Type} (f : β → α → β) (q : α → Bool) (l : List α) (b : β) : (l.filter q).foldl f b = l.foldl (fun b a => if q a then f b a else b) b := by
  induction l generalizing b with
  | nil => rfl
  | cons a l ih =>
    rw [List.filter_cons, List.foldl_cons]
    split
    · rw [List.foldl_cons, ih]
    · exact ih b
theorem version_mem {l : Int} {R : List Stm} {ks : List Nat} {k : Nat} (h : versionOf l R ks = some k) : k ∈ ks := by
  unfold versionOf at h
  have gen : ∀ (ks : List Nat) (b : Option Nat), ks.foldl (vstep l R) b = some k → k ∈ ks ∨ b = some k := by
    intro ks
    induction ks with
    | nil => intro b h; exact .inr h
    | cons a ks ih =>
      intro b h
      rw [List.foldl_cons] at h
      rcases ih _ h with h1 | h1
      · exact .inl (List.mem_cons_of_mem _ h1)
      · unfold vstep at h1
        split at h1
        · exact .inr h1
        · split at h1
          · cases h1; exact .inl (List.mem_cons_self ..)
          · split at h1
            · cases h1; exact .inl (List.mem_cons_self ..)
            · exact .inr h1
  rcases gen ks none h with h1 | h1
  · exact h1
  · cases h1
theorem places_lt {p : Pln} {R : List Stm} {key : ByteArray} {k : Nat} (h : k ∈ placesOf p R key) : k < R.length ∧ atKey p R key k = true := by
  unfold placesOf at h
  have := List.mem_filter.1 h
  exact ⟨List.mem_range.1 this.1, this.2⟩
theorem partners_lt {p : Pln} {l : Stm} {R : List Stm} {k : Nat} (h : k ∈ partners p l R) : k < R.length := by
  unfold partners at h
  split at h
  · cases h
  · split at h
    · have hm : versionOf l.t R (placesOf p R (keyOfS p 1 l.r)) = some k := by simpa using h
      exact (places_lt (version_mem hm)).1
    · exact (places_lt (List.mem_filter.1 h).1).1
/-- as the document goes through the right rows: is the one at k a partner? -/
def partnerB (p : Pln) (l : Stm) (R : List Stm) (k : Nat) : Bool :=
  if p.kind = 3 then decide (hasB p 1 l.r = true ∧ versionOf l.t R (placesOf p R (keyOfS p 1 l.r)) = some k) else hasB p 1 l.r && (atKey p R (keyOfS p 1 l.r) k && meetT p l.t (R.getD k default).t)
theorem filter_one (n k : Nat) (h : k < n) : (List.range n).filter (fun j => decide (some k = some j)) = [k] := by
  have e : (fun j => decide (some k = some j)) = fun j => j == k := by
    funext j
    rw [Bool.eq_iff_iff]
    simp
    exact ⟨fun h => h.symm, fun h => h.symm⟩
  rw [e]
  induction n with
  | zero => omega
  | succ n ih =>
    rw [List.range_succ, List.filter_append]
    by_cases hk : k = n
    · subst hk
      have h0 : (List.range k).filter (fun j => j == k) = [] := by
        rw [List.filter_eq_nil_iff]
        intro j hj
        have := List.mem_range.1 hj
        simp; omega
      rw [h0]; simp
    · rw [ih (by omega)]
      have : ¬ n = k := fun e => hk e.symm
      simp [this]
theorem partners_filter (p : Pln) (l : Stm) (R : List Stm) : partners p l R = (List.range R.length).filter (partnerB p l R) := by
  unfold partners partnerB
  cases hb : hasB p 1 l.r with
  | false =>
    rw [if_pos rfl]
    symm
    rw [List.filter_eq_nil_iff]
    intro k _
    split <;> simp
  | true =>
    rw [if_neg (by decide)]
    split
    · cases hv : versionOf l.t R (placesOf p R (keyOfS p 1 l.r)) with
      | none =>
        symm
        simp
      | some k =>
        have hk := (places_lt (version_mem hv)).1
        have := filter_one R.length k hk
        simpa using this.symm
    · unfold placesOf
      rw [List.filter_filter]
      congr 1
      funext k
      rw [Bool.true_and, Bool.and_comm]
end Go.Proofs.YtbfbgdinhiglaaaGreat.bt

/- What keeps rows from being joined: timesFit, mayComeIn, checkRows. -/
namespace Go.Proofs.YtbfbgdinhiglaaaGreat.bt
open Go.ChangeShapes Go.WideShapes Go.ChangeAt Go.RowKit
open vl pl
set_option linter.unusedVariables false
set_option linter.unusedSimpArgs false
end Go.Proofs.YtbfbgdinhiglaaaGreat.bt

/- E3: what keeps rows from being joined: checkRows. -/
namespace Go.Proofs.YtbfbgdinhiglaaaGreat.bt
open Go.ChangeShapes Go.WideShapes Go.ChangeAt Go.RowKit
open vl pl
set_option linter.unusedVariables false
set_option linter.unusedSimpArgs false
theorem wrapN (x : Int) : IntKind.i64.wrap x = (x + 9223372036854775808) % 18446744073709551616 - 9223372036854775808 := by
  simp only [IntKind.wrap, IntKind.signed, IntKind.bits]
  simp
  split <;> omega
/-- what checkRows answers, by its parts -/
def rowsErr (pe : Int) (many f1 f2 : Bool) (e1 e2 : Int) : Int :=
  if pe ≠ 0 then pe else if many = true then 2 else if f1 = false ∨ f2 = false then 3 else if e1 ≠ 0 then e1 else e2
theorem batchErr_parts (p : Pln) (L R : List Stm) : batchErr p L R = rowsErr (planErr p) (decide (120 < L.length + R.length)) (fitsB L) (fitsB R) (firstErr p 1 L) (firstErr p 2 R) := by
  unfold batchErr rowsErr; simp only [decide_eq_true_eq]
end Go.Proofs.YtbfbgdinhiglaaaGreat.bt
