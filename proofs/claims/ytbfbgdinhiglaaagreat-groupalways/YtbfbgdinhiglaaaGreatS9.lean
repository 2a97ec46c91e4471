import Derived.Test.YtbfbgdinhiglaaaGreatMgChgD
import Derived.Test.YtbfbgdinhiglaaaGreatMgValB
import Derived.ChangeSame
import Derived.Test.YtbfbgdinhiglaaaGreatMgChgB
import Derived.Laws.AppendOwnNone
import Derived.Laws.CopyRow
/- What is read of a view, and of changes, that came in. -/
namespace Go.Proofs.YtbfbgdinhiglaaaGreat.ch
open Go.ChangeShapes Go.WideShapes Go.ChangeAt Go.RowKit Go.Joins Go.Deep
open vl
set_option linter.unusedVariables false
set_option linter.unusedSimpArgs false

theorem cellsG : Tryz.prog.cellsOf 65 = 2 := by kernel_rfl
theorem cellsR : Tryz.prog.cellsOf 50 = 1 := by kernel_rfl

section
variable {H : Type} {enc : TypeId × Value → H} {w : World} {base : Nat} {spare : Nat → Bool} {held : Bool}

theorem open_one {v : Value} {y : DataW H × List MemPlace} {fuel : Nat} (h : DataW.trod enc Tryz.prog w base spare held fuel 50 [v] = some y) :
    ∃ a len cap r, v = .slice a len cap ∧ List.length (α := Cel) r = len ∧ vl.rowAt w a r ∧ wfRow r ∧ len ≤ 9223372036854775807 := by
  rcases open_slice Tryz.underlying50 h with ⟨hcs, _⟩ | ⟨x, l, c, m, n, D, Pl, hcs, _⟩
  · simp at hcs
    subst hcs
    obtain ⟨r, h1, h2, h3, h4⟩ := open_row (a := none) (len := 0) (cap := 0) (d := y.1) (p := y.2) ⟨fuel, h⟩
    exact ⟨_, _, _, r, rfl, h1, h2, h3, h4⟩
  · simp at hcs
    subst hcs
    obtain ⟨r, h1, h2, h3, h4⟩ := open_row (a := some x) (len := l) (cap := c) (d := y.1) (p := y.2) ⟨fuel, h⟩
    exact ⟨_, _, _, r, rfl, h1, h2, h3, h4⟩

set_option maxRecDepth 100000 in
theorem open_chg {x : Addr} {cs : List Value} {y : DataW H × List MemPlace} {fuel : Nat} (hc : w.cells? base x 2 = some cs) (ht : DataW.trod enc Tryz.prog w base spare held fuel 65 cs = some y) :
    ∃ (b off : Nat) (c : Chg) (ra : Option Addr) (rc : Nat), x = ⟨b, off, none⟩ ∧ w.cell? ⟨b, off, none⟩ = some (.int .i64 c.k) ∧ w.cell? ⟨b, off + 1, none⟩ = some (.slice ra c.r.length rc) ∧ vl.rowAt w ra c.r ∧ wfRow c.r ∧ c.r.length ≤ 9223372036854775807 ∧ (-9223372036854775808 ≤ c.k ∧ c.k ≤ 9223372036854775807) := by
  obtain ⟨_, hlen, hat⟩ := World.cells?_some hc
  obtain ⟨y0, y1, n, _, _, h0, h1⟩ := trod_struct2 Tryz.underlying65 ht
  match cs, hlen with
  | [a0, a1], _ =>
    obtain ⟨m, e1, _, wm⟩ := DataW.trod_int Tryz.underlying3 h0
    simp [cellsInt] at e1
    subst e1
    simp [cellsR, cellsInt] at h1
    obtain ⟨ra, rl, rc, r, e0, hl, hr, hw, hm⟩ := open_one h1
    subst e0 hl
    obtain ⟨b, off, spot⟩ := x
    have g0 := hat 0 (by omega)
    have g1 := hat 1 (by omega)
    have hspot : spot = none := by simpa [Addr.add] using World.cell?_spot g0
    subst hspot
    refine ⟨b, off, ⟨m, r⟩, ra, rc, rfl, ?_, ?_, hr, hw, hm, bounds_i64 wm⟩
    · simpa [Addr.add] using g0
    · simpa [Addr.add] using g1

theorem open_changes {a : Option Addr} {len cap : Nat} {d : DataW H} {p : List MemPlace} (h : DataW.Trod enc Tryz.prog w base spare held 36 (.slice a len cap) d p) :
    ∃ r : List Chg, r.length = len ∧ chgsAt w a r ∧ wfChgs r ∧ (len ≤ 9223372036854775807 ∧ len ≤ cap) := by
  obtain ⟨fuel, hf⟩ := h
  rcases open_slice Tryz.underlying36 hf with ⟨hcs, _⟩ | ⟨x, l, c, m, n, D, Pl, hcs, _, hl, hm, hmm, _, hel⟩
  · simp [Value.cells] at hcs
    obtain ⟨rfl, rfl, rfl⟩ := hcs
    exact ⟨[], rfl, fun i hi => absurd hi (Nat.not_lt_zero i), (fun c hc => by cases hc), by omega, by omega⟩
  · simp [Value.cells] at hcs
    obtain ⟨rfl, rfl, rfl⟩ := hcs
    have hle : len ≤ m := by rw [hmm]; split <;> omega
    rw [cellsG] at hel
    obtain ⟨f, hfam⟩ := choose_lt (α := Chg) (n := len) (p := fun i c => ∃ b off ra rc, x = ⟨b, off, none⟩ ∧ w.cell? ⟨b, off + i * 2, none⟩ = some (.int .i64 c.k) ∧ w.cell? ⟨b, off + i * 2 + 1, none⟩ = some (.slice ra c.r.length rc) ∧ vl.rowAt w ra c.r ∧ wfRow c.r ∧ c.r.length ≤ 9223372036854775807 ∧ (-9223372036854775808 ≤ c.k ∧ c.k ≤ 9223372036854775807)) (fun i hi => by
      obtain ⟨cs', h1, h2⟩ := hel i (by omega)
      obtain ⟨b, off, c, ra, rc, e, g0, g1, g2, hw⟩ := open_chg h1 h2
      obtain ⟨cs0, z1, z2⟩ := hel 0 (by omega)
      obtain ⟨b0, off0, c0, ra0, rc0, e0, _⟩ := open_chg z1 z2
      have ex : x = ⟨b0, off0, none⟩ := by simpa [Addr.add] using e0
      subst ex
      have ea : (⟨b0, off0, none⟩ : Addr).add (i * 2) = ⟨b0, off0 + i * 2, none⟩ := by unfold Addr.add; split <;> simp_all
      rw [ea] at e
      cases e
      exact ⟨c, b, off0, ra, rc, rfl, g0, g1, g2, hw⟩)
    refine ⟨(List.range len).map f, by simp, ?_, ?_, by unfold maxLen at hm; omega, hl⟩
    · intro i hi
      have hi' : i < len := by simpa using hi
      obtain ⟨b, off, ra, rc, rfl, g0, g1, g2, _⟩ := hfam i hi'
      have e : ((List.range len).map f).getD i default = f i := by simp [List.getD_eq_getElem?_getD, hi']
      rw [e]
      exact ⟨b, off, ra, rc, rfl, g0, g1, g2⟩
    · intro c hc
      obtain ⟨i, hi, rfl⟩ := List.mem_map.1 hc
      obtain ⟨_, _, _, _, _, _, _, _, hw⟩ := hfam i (by simpa using hi)
      exact hw
end
end Go.Proofs.YtbfbgdinhiglaaaGreat.ch
/- Several texts in one: ChgTwo, ChgMade. -/
/- Two lists of changes that are being made at once, in memory: what they are, and that one change more is one change more. -/
namespace Go.Proofs.YtbfbgdinhiglaaaGreat.ch
open Go.ChangeShapes Go.WideShapes Go.ChangeAt Go.RowKit Go.Maps Go.WideMaps
open vl
set_option linter.unusedVariables false
set_option linter.unusedSimpArgs false

theorem infoG : (Tryz.prog.info? 65).map (fun i => (i.zero, i.size, i.bytes)) = some (some (.agg #[.int .i64 0, .slice none 0 0]), 2, 32) := by kernel_rfl
/-- the cells of changes -/
def flatC (l : List (Int × Value)) : List Value := l.flatMap fun p => [.int .i64 p.1, p.2]
theorem flatC_snoc (l : List (Int × Value)) (n : Int) (x : Value) : flatC (l ++ [(n, x)]) = flatC l ++ [.int .i64 n, x] := by
  unfold flatC; rw [List.flatMap_append]; simp
theorem flatC_at (l : List (Int × Value)) (i : Nat) (hli : i < l.length) : (flatC l)[i * 2]? = some (.int .i64 (l.getD i (0, .bool false)).1) ∧ (flatC l)[i * 2 + 1]? = some (l.getD i (0, .bool false)).2 := by
  induction l generalizing i with
  | nil => exact absurd hli (Nat.not_lt_zero i)
  | cons p r ih =>
    have e : flatC (p :: r) = .int .i64 p.1 :: p.2 :: flatC r := rfl
    rw [e]
    cases i with
    | zero => exact ⟨rfl, rfl⟩
    | succ i =>
      have := ih i (by simpa using hli)
      rw [show (i + 1) * 2 = i * 2 + 1 + 1 by omega]
      simpa using this

end Go.Proofs.YtbfbgdinhiglaaaGreat.ch

/- What changes' closure does to the two lists that it makes: so many Deletes more, so many Inserts more. -/
namespace Go.Proofs.YtbfbgdinhiglaaaGreat.ch
open Go.ChangeShapes Go.WideShapes Go.ChangeAt Go.RowKit Go.Maps Go.WideMaps
open vl
set_option linter.unusedVariables false
set_option linter.unusedSimpArgs false

end Go.Proofs.YtbfbgdinhiglaaaGreat.ch
/- Several texts in one: ChgAll, ChgNet, ChgSum. -/
/- each, with changes' closure; and changes: Deletes of the counts below 0, Inserts of those above, in memory of their own. -/
namespace Go.Proofs.YtbfbgdinhiglaaaGreat.ch
open Go.ChangeShapes Go.WideShapes Go.ChangeAt Go.RowKit Go.Maps Go.WideMaps Go.Sort
open vl
set_option linter.unusedVariables false
set_option linter.unusedSimpArgs false

theorem flatC_app (p q : List (Int × Value)) : flatC (p ++ q) = flatC p ++ flatC q := by unfold flatC; rw [List.flatMap_append]
end Go.Proofs.YtbfbgdinhiglaaaGreat.ch

/- changes, and Net: what is left of changes. -/
namespace Go.Proofs.YtbfbgdinhiglaaaGreat.ch
open Go.ChangeShapes Go.WideShapes Go.ChangeAt Go.RowKit Go.Maps Go.WideMaps Go.Sort
open vl
set_option linter.unusedVariables false
set_option linter.unusedSimpArgs false

end Go.Proofs.YtbfbgdinhiglaaaGreat.ch

/- Counts as functions of keys: what add does to them, and that good counts are what they tell of each key. -/
namespace Go.Proofs.YtbfbgdinhiglaaaGreat.ch
open Go.ChangeShapes Go.WideShapes Go.ChangeAt Go.RowKit Go.Maps Go.WideMaps
open vl
set_option linter.unusedVariables false
set_option linter.unusedSimpArgs false

theorem getK_cons (p : List UInt8 × Int) (r : KV) (k : List UInt8) : getK (p :: r) k = if p.1 = k then p.2 else getK r k := by
  unfold getK
  by_cases h : p.1 = k
  · rw [if_pos h, List.find?_cons_of_pos (by simpa using h)]
  · rw [if_neg h, List.find?_cons_of_neg (by simpa using h)]
theorem getK_ins (x : List UInt8 × Int) (l : KV) (k : List UInt8) (h : ∀ p ∈ l, p.1 ≠ x.1) : getK (insK x l) k = if x.1 = k then x.2 else getK l k := by
  induction l with
  | nil => rw [insK, getK_cons]
  | cons y r ih =>
    rw [insK]
    split
    · rw [getK_cons]
    · rw [getK_cons, ih (fun p hp => h p (List.mem_cons_of_mem _ hp)), getK_cons]
      have hy := h y (List.mem_cons_self ..)
      by_cases e1 : y.1 = k
      · rw [if_pos e1, if_pos e1, if_neg (fun e => hy (e1.trans e.symm))]
      · rw [if_neg e1, if_neg e1]
theorem getK_del (l : KV) (k k' : List UInt8) : getK (delK l k) k' = if k' = k then 0 else getK l k' := by
  by_cases h : k' = k
  · rw [if_pos h]
    exact getK_none (fun p hp => by rw [h]; exact (mem_del.1 hp).2)
  · rw [if_neg h]
    induction l with
    | nil => rfl
    | cons y r ih =>
      unfold delK at ih ⊢
      by_cases e : y.1 = k
      · rw [List.filter_cons_of_neg (by simpa using e), ih, getK_cons, if_neg (fun e2 => h (e2.symm.trans e))]
      · rw [List.filter_cons_of_pos (by simpa using e), getK_cons, ih, getK_cons]
theorem getK_put (l : KV) (k k' : List UInt8) (n : Int) : getK (putK l k n) k' = if k' = k then n else getK l k' := by
  unfold putK
  rw [getK_ins _ _ _ (fun p hp => (mem_del.1 hp).2), getK_del]
  by_cases h : k' = k
  · subst h; rw [if_pos rfl, if_pos rfl]
  · rw [if_neg (fun e => h e.symm), if_neg h, if_neg h]

theorem addE_zero {kv : KV} {k : List UInt8} {d : Int} : addE kv k d = 0 ↔ 0 ≤ getK kv k + d ∧ getK kv k + d ≤ 1073741824 ∧ (getK kv k + d = 0 ∨ getK kv k ≠ 0 ∨ kv.length ≠ 4096) := by
  unfold addE
  constructor
  · intro h
    split at h
    · cases h
    · split at h
      · cases h
      · split at h
        · exact ⟨by omega, by omega, .inl ‹_›⟩
        · split at h
          · cases h
          · rename_i h4
            refine ⟨by omega, by omega, ?_⟩
            by_cases e : getK kv k = 0
            · exact .inr (.inr (fun e2 => h4 ⟨e, e2⟩))
            · exact .inr (.inl e)
  · rintro ⟨h1, h2, h3⟩
    rw [if_neg (by omega), if_neg (by omega)]
    split
    · rfl
    · rename_i h4
      rw [if_neg]
      rintro ⟨e1, e2⟩
      rcases h3 with h | h | h
      · exact h4 h
      · exact h e1
      · exact h e2
theorem addV_get {kv : KV} {k : List UInt8} {d : Int} (h : addE kv k d = 0) (k' : List UInt8) : getK (addV kv k d) k' = getK kv k' + if k' = k then d else 0 := by
  obtain ⟨h1, h2, h3⟩ := addE_zero.1 h
  unfold addV
  rw [if_neg (by omega), if_neg (by omega)]
  split
  · rename_i h4
    rw [getK_del]
    by_cases e : k' = k
    · rw [if_pos e, if_pos e, e]; omega
    · rw [if_neg e, if_neg e]; omega
  · rename_i h4
    rw [if_neg]
    · rw [getK_put]
      by_cases e : k' = k
      · rw [if_pos e, if_pos e, e]
      · rw [if_neg e, if_neg e]; omega
    · rintro ⟨e1, e2⟩
      rcases h3 with h | h | h
      · exact h4 h
      · exact h e1
      · exact h e2

theorem getK_low {p : List UInt8 × Int} {r : KV} {k : List UInt8} (h : rising (p :: r)) (hk : bytesBefore k p.1 = true) : getK (p :: r) k = 0 := by
  refine getK_none ?_
  have h1 := List.pairwise_cons.1 h
  intro q hq e
  rw [← e] at hk
  rcases List.mem_cons.1 hq with e2 | hq
  · rw [e2, before_irrefl] at hk; cases hk
  · have := before_trans hk (h1.1 q hq)
    rw [before_irrefl] at this; cases this
theorem getK_tail {p : List UInt8 × Int} {r : KV} (h : rising (p :: r)) : getK r p.1 = 0 := by
  refine getK_none ?_
  intro q hq e
  have := (List.pairwise_cons.1 h).1 q hq
  rw [e, before_irrefl] at this; cases this
/-- counts that tell the same of each key are the same -/
theorem kv_ext {a b : KV} (ha : rising a) (hb : rising b) (na : ∀ p ∈ a, p.2 ≠ 0) (nb : ∀ p ∈ b, p.2 ≠ 0) (h : ∀ k, getK a k = getK b k) : a = b := by
  induction a generalizing b with
  | nil => cases b with
    | nil => rfl
    | cons q s =>
      have := h q.1
      rw [getK_of hb (List.mem_cons_self ..)] at this
      exact absurd this.symm (nb q (List.mem_cons_self ..))
  | cons p r ih => cases b with
    | nil =>
      have := h p.1
      rw [getK_of ha (List.mem_cons_self ..)] at this
      exact absurd this (na p (List.mem_cons_self ..))
    | cons q s =>
      have hp := getK_of ha (List.mem_cons_self (a := p) (l := r))
      have hq := getK_of hb (List.mem_cons_self (a := q) (l := s))
      have e : p.1 = q.1 := by
        refine Classical.byContradiction fun hne => ?_
        cases hpq : bytesBefore p.1 q.1 with
        | true =>
          have := getK_low hb hpq
          rw [← h, hp] at this
          exact na p (List.mem_cons_self ..) this
        | false =>
          have := getK_low ha (before_total _ _ hpq hne)
          rw [h, hq] at this
          exact nb q (List.mem_cons_self ..) this
      have e2 : p.2 = q.2 := by rw [← hp, ← hq, h, e]
      have hpe : p = q := Prod.ext e e2
      subst hpe
      rw [ih (List.pairwise_cons.1 ha).2 (List.pairwise_cons.1 hb).2 (fun x hx => na x (List.mem_cons_of_mem _ hx)) (fun x hx => nb x (List.mem_cons_of_mem _ hx)) (fun k => by
        have := h k
        rw [getK_cons, getK_cons] at this
        by_cases e : p.1 = k
        · rw [← e, getK_tail ha, getK_tail hb]
        · rwa [if_neg e, if_neg e] at this)]
theorem good_ext {a b : KV} (ha : good a) (hb : good b) (h : ∀ k, getK a k = getK b k) : a = b :=
  kv_ext ha.up hb.up (fun p hp => by have := ha.cnt p hp; omega) (fun p hp => by have := hb.cnt p hp; omega) h
/-- how much changes move a key's count -/
def sumK : List Chg → List UInt8 → Int
  | [], _ => 0
  | c :: l, k => (if k = encR c.r then moreOf c.k else 0) + sumK l k
theorem sumK_app (l m : List Chg) (k : List UInt8) : sumK (l ++ m) k = sumK l k + sumK m k := by
  induction l with
  | nil => simp [sumK]
  | cons c r ih => rw [List.cons_append, sumK, ih, sumK]; omega
theorem sumK_one (c : Chg) (k : List UInt8) : sumK [c] k = if k = encR c.r then moreOf c.k else 0 := by simp [sumK]
theorem at_get {kv : KV} {l : List Chg} (i : Nat) (hi : i ≤ l.length) (h : ∀ j, j < i → errK kv l j = 0) (k : List UInt8) : getK (atK kv l i) k = getK kv k + sumK (l.take i) k := by
  induction i with
  | zero => simp [atK, sumK]
  | succ i ih =>
    rw [atK_succ kv l i (by omega), addV_get (h i (by omega)), ih (by omega) (fun j hj => h j (by omega)), takeC l i (by omega), sumK_app, sumK_one]
    omega
end Go.Proofs.YtbfbgdinhiglaaaGreat.ch
/- Several texts in one: ChgMV, ChgPlace, ChgMore1. -/
/- A view of one's own that is worked on in place: what it is in memory, and what a store, a cut and an append make of it. -/
namespace Go.Proofs.YtbfbgdinhiglaaaGreat.ch
open Go.ChangeShapes Go.WideShapes Go.ChangeAt Go.RowKit Go.Maps Go.WideMaps
open vl
set_option linter.unusedVariables false
set_option linter.unusedSimpArgs false

abbrev PL := List (Value × Cnt)
def flatP (L : PL) : List Value := L.flatMap fun p => [p.1, .int .i64 p.2.n]
theorem flatP_app (L M : PL) : flatP (L ++ M) = flatP L ++ flatP M := by unfold flatP; rw [List.flatMap_append]
theorem flatP_cons (p : Value × Cnt) (L : PL) : flatP (p :: L) = p.1 :: .int .i64 p.2.n :: flatP L := rfl
theorem flatP_at (L : PL) (i : Nat) (p : Value × Cnt) (h : L[i]? = some p) : (flatP L)[i * 2]? = some p.1 ∧ (flatP L)[i * 2 + 1]? = some (.int .i64 p.2.n) := by
  induction L generalizing i with
  | nil => cases h
  | cons q r ih =>
    rw [flatP_cons]
    cases i with
    | zero => cases h; exact ⟨rfl, rfl⟩
    | succ i =>
      have := ih i (by simpa using h)
      rw [show (i + 1) * 2 = i * 2 + 1 + 1 by omega]
      simpa using this
def rowOne (w : World) (v : Value) (p : Value × Cnt) : Prop := ∃ ad cap, p.1 = .slice ad p.2.r.length cap ∧ vl.rowAt w ad p.2.r ∧ ∀ g, p.1.ownBlock = some g → v.ownBlock ≠ some g ∧ g < w.heap.size
structure MV (w : World) (base : Nat) (v : Value) (L : PL) : Prop where
  low : base ≤ w.heap.size
  own : w.ownsRow base 71 2 v L.length (flatP L)
  rows : ∀ p ∈ L, rowOne w v p
def outOf (L : PL) : List Cnt := L.map (·.2)
theorem out_len (L : PL) : (outOf L).length = L.length := by simp [outOf]
theorem out_at (L : PL) (i : Nat) (p : Value × Cnt) (h : L[i]? = some p) : (outOf L).getD i default = p.2 := by
  simp [outOf, List.getD_eq_getElem?_getD, h]
/-- a row stays where its block does -/
theorem rowAt_block {w w' : World} {ad : Option Addr} {r : List Cel} {cap : Nat} (h : vl.rowAt w ad r) (hb : ∀ g, (Value.slice ad r.length cap).ownBlock = some g → g < w.heap.size → w'.heap[g]? = w.heap[g]?) : vl.rowAt w' ad r := by
  intro i hi
  obtain ⟨b, o, e, x1, x2, x3⟩ := h i hi
  subst e
  have hlt : b < w.heap.size := World.block_lt_of_cell? _ _ x1
  have hbb := hb b rfl hlt
  refine ⟨b, o, rfl, ?_, ?_, ?_⟩
  · rw [World.cell?_of_block (w := w) hbb]; exact x1
  · rw [World.cell?_of_block (w := w) hbb]; exact x2
  · rw [World.cell?_of_block (w := w) hbb]; exact x3
theorem rowOne_keep {w w' : World} {v v' : Value} {p : Value × Cnt} (h : rowOne w v p) (hb : ∀ g, g < w.heap.size → v.ownBlock ≠ some g → w'.heap[g]? = w.heap[g]?) (hs : w.heap.size ≤ w'.heap.size) (hv : ∀ g, g < w.heap.size → v.ownBlock ≠ some g → v'.ownBlock ≠ some g) : rowOne w' v' p := by
  obtain ⟨ad, cap, e, hr, ha⟩ := h
  refine ⟨ad, cap, e, ?_, fun g hg => ⟨hv g (ha g hg).2 (ha g hg).1, Nat.lt_of_lt_of_le (ha g hg).2 hs⟩⟩
  exact rowAt_block (cap := cap) hr (fun g hg hlt => hb g hlt (ha g (by rw [e]; exact hg)).1)
theorem MV_below {w w' : World} {base : Nat} {v : Value} {L : PL} (h : MV w base v L) (hb : Below w.heap.size w w') : MV w' base v L :=
  ⟨Nat.le_trans h.low hb.size, own_below h.own hb, fun p hp => rowOne_keep (h.rows p hp) (fun g hg _ => hb.block g hg) hb.size (fun g _ k => k)⟩
theorem MV_len {w : World} {base : Nat} {v : Value} {L : PL} (h : MV w base v L) : ∃ ad cap, v = .slice ad L.length cap ∧ (0 < L.length → ∃ g, ad = some ⟨g, 0, none⟩) := row_form h.own
theorem MV_view {w : World} {base : Nat} {ad : Option Addr} {n cap : Nat} {L : PL} (h : MV w base (.slice ad n cap) L) : viewAt w ad (outOf L) := by
  intro i hi
  rw [out_len] at hi
  obtain ⟨ad', cap', hv, hg⟩ := MV_len h
  injection hv with ha _ _
  subst ha
  obtain ⟨g, rfl⟩ := hg (by omega)
  have hp : L[i]? = some L[i] := List.getElem?_eq_getElem hi
  obtain ⟨f1, f2⟩ := flatP_at L i _ hp
  obtain ⟨ra, rc, e, hr, _⟩ := h.rows L[i] (List.getElem_mem hi)
  have hc := World.ownsRow.cells h.own (g := g) rfl
  rw [out_at L i _ hp]
  refine ⟨g, 0, ra, rc, rfl, ?_, hr, ?_⟩
  · have := hc _ _ f1; rw [addr_add, e] at this; exact this
  · have := hc _ _ f2; rw [addr_add] at this; exact this
theorem own_frozen {w : World} {base : Nat} {e : TypeId} {size n cap g : Nat} {xs : List Value} (h : w.ownsRow base e size (.slice (some ⟨g, 0, none⟩) n cap) n xs) (j : Nat) : w.frozen? ⟨g, j, none⟩ = false := by
  rcases h.2 with ⟨hv, _⟩ | ⟨g', cap', cur, hv, _, hg, _⟩
  · cases hv
  · cases hv
    simp [World.frozen?, hg]
theorem own_set {w : World} {base : Nat} {e : TypeId} {size n cap g : Nat} {xs : List Value} (h : w.ownsRow base e size (.slice (some ⟨g, 0, none⟩) n cap) n xs) (j : Nat) (hj : j < n * size) (x : Value) : (w.setCell ⟨g, j, none⟩ x).ownsRow base e size (.slice (some ⟨g, 0, none⟩) n cap) n (xs.set j x) := by
  refine ⟨by rw [List.length_set]; exact h.1, ?_⟩
  rcases h.2 with ⟨hv, _⟩ | ⟨g', cap', cur, hv, h1, hg, h2, h3, h4, h5⟩
  · cases hv
  · cases hv
    have hm : n * size ≤ cap * size := Nat.mul_le_mul_right _ h2
    refine .inr ⟨g, cap, cur.setIfInBounds j x, rfl, h1, ?_, h2, h3, by rw [Array.size_setIfInBounds]; exact h4, ?_⟩
    · rw [setCell_eq_setRow w g j cur e (0, 0) x hg]
      exact setRow_heap w g cur _ e _ hg
    · rw [Array.toList_setIfInBounds, ← h5, List.take_set]
end Go.Proofs.YtbfbgdinhiglaaaGreat.ch

/- The document's place: where a row stands in a view, or would stand. -/
namespace Go.Proofs.YtbfbgdinhiglaaaGreat.ch
open Go.ChangeShapes Go.WideShapes Go.ChangeAt Go.RowKit Go.Maps Go.WideMaps
open vl
set_option linter.unusedVariables false
set_option linter.unusedSimpArgs false

end Go.Proofs.YtbfbgdinhiglaaaGreat.ch

/- What the document's more does to a view of one's own: a number set, a row struck, a row put in between. -/
namespace Go.Proofs.YtbfbgdinhiglaaaGreat.ch
open Go.ChangeShapes Go.WideShapes Go.ChangeAt Go.RowKit Go.Maps Go.WideMaps
open vl
set_option linter.unusedVariables false
set_option linter.unusedSimpArgs false

/-! ### as counts -/
/-! ### in memory -/
end Go.Proofs.YtbfbgdinhiglaaaGreat.ch
/- Things of one's own, many at once (slices of slices): who changes one leaves the others as they are. And room for an element in between: an append and a copy. -/
namespace Go.Proofs.YtbfbgdinhiglaaaGreat.bt
open Go.ChangeShapes Go.WideShapes Go.ChangeAt Go.RowKit
open vl
set_option linter.unusedVariables false
set_option linter.unusedSimpArgs false
/-- a slice of one's own: its value, its elements' type and size, how many, and their cells -/
structure Own1 where
  v : Value
  e : TypeId
  s : Nat
  n : Nat
  xs : List Value
def Own1.here (x : Own1) (w : World) (base : Nat) : Prop := w.ownsRow base x.e x.s x.v x.n x.xs
def apart (x y : Own1) : Prop := ∀ g, x.v.ownBlock = some g → y.v.ownBlock ≠ some g
theorem apart_symm {x y : Own1} (h : apart x y) : apart y x := fun g h1 h2 => h g h2 h1
structure Est (w : World) (base : Nat) (E : List Own1) : Prop where
  low : base ≤ w.heap.size
  own : ∀ x ∈ E, x.here w base
  two : E.Pairwise apart
theorem Est_perm {w : World} {base : Nat} {E E' : List Own1} (h : Est w base E) (hp : E.Perm E') : Est w base E' :=
  ⟨h.low, fun x hx => h.own x (hp.mem_iff.2 hx), hp.pairwise h.two (fun h => apart_symm h)⟩
theorem Est_below {w w' : World} {base : Nat} {E : List Own1} (h : Est w base E) (hb : Below w.heap.size w w') : Est w' base E :=
  ⟨Nat.le_trans h.low hb.size, fun x hx => ch.own_below (h.own x hx) hb, h.two⟩
/-- one is changed: the others stay -/
theorem Est_frame {w w2 : World} {base : Nat} {x x' : Own1} {E : List Own1} (h : Est w base (x :: E)) (hs : w.heap.size ≤ w2.heap.size) (hblk : ∀ b, b < w.heap.size → x.v.ownBlock ≠ some b → w2.heap[b]? = w.heap[b]?) (hx : x'.here w2 base)
    (hat : ∀ g, x'.v.ownBlock = some g → x.v.ownBlock = some g ∨ w.heap.size ≤ g) : Est w2 base (x' :: E) := by
  have h2 := List.pairwise_cons.1 h.two
  refine ⟨Nat.le_trans h.low hs, fun y hy => ?_, List.pairwise_cons.2 ⟨fun y hy g hg => ?_, h2.2⟩⟩
  · rcases List.mem_cons.1 hy with rfl | hy
    · exact hx
    · have hy' := h.own y (List.mem_cons_of_mem _ hy)
      exact ch.own_same hy' (fun g hg => hblk g (ch.own_lt hy' hg).2 (fun e => h2.1 y hy g e hg))
  · rcases hat g hg with h3 | h3
    · exact h2.1 y hy g h3
    · intro e
      have := (ch.own_lt (h.own y (List.mem_cons_of_mem _ hy)) e).2
      omega
/-- a new one -/
theorem Est_new {w w' : World} {base : Nat} {x : Own1} {E : List Own1} (h : Est w base E) (hb : Below w.heap.size w w') (hx : x.here w' base) (hn : ∀ g, x.v.ownBlock = some g → w.heap.size ≤ g) : Est w' base (x :: E) := by
  have h' := Est_below h hb
  refine ⟨h'.low, fun y hy => ?_, List.pairwise_cons.2 ⟨fun y hy g hg e => ?_, h.two⟩⟩
  · rcases List.mem_cons.1 hy with rfl | hy
    · exact hx
    · exact h'.own y hy
  · have := (ch.own_lt (h.own y hy) e).2
    have := hn g hg
    omega
/-- a cell is set -/
theorem Est_set {w : World} {base g n cap j : Nat} {e : TypeId} {s : Nat} {xs : List Value} {E : List Own1} (h : Est w base (⟨.slice (some ⟨g, 0, none⟩) n cap, e, s, n, xs⟩ :: E)) (hj : j < n * s) (x : Value) :
    Est (w.setCell ⟨g, j, none⟩ x) base (⟨.slice (some ⟨g, 0, none⟩) n cap, e, s, n, xs.set j x⟩ :: E) := by
  have h1 : w.ownsRow base e s (.slice (some ⟨g, 0, none⟩) n cap) n xs := h.own _ (List.mem_cons_self ..)
  refine Est_frame h (by simp [World.setCell]) (fun b hb ho => Below.heap_setCell _ _ _ b (fun e => ho (by rw [e]; rfl))) (ch.own_set h1 j hj x) (fun b hb => .inl hb)
theorem run_copyS {w : World} (t e : TypeId) (i0 : TypeInfo) (s : Nat) (hu : Tryz.prog.underlying t = some (.slice e)) (hi : Tryz.prog.info? e = some i0) (hz1 : i0.size = s) (ty : TypeId) (g o dLen dCap : Nat) (a : Addr) (sLen sCap : Nat) (cur : Array Value) (te : TypeId) (cs : List Value) (hg : w.heap[g]? = some (.cells cur te (0, 0))) (hn : cs.length = Nat.min sLen dLen * s)
    (hsrc : ∀ j v, cs[j]? = some v → w.cell? (a.add j) = some v) (hfit : o + cs.length ≤ cur.size) (h1 : ∀ v ∈ cs, v.oneCell' = true) :
    (Builtin.copy_ #[t, t] ty #[.slice (some ⟨g, o, none⟩) dLen dCap, .slice (some a) sLen sCap]).run Tryz.prog w = .ok (goInt (Nat.min sLen dLen)) (w.setRow g (cur.toList.take o ++ cs ++ cur.toList.drop (o + cs.length)).toArray) := by
  have hl := run_loadCells_list (P := Tryz.prog) w a cs hsrc
  have hst := run_storeCells_at Tryz.prog g o te cs 0 cur w hg (by simpa using hfit) h1
  simp [Builtin.copy_, run_underlying hu, Builtin.lenOf, Builtin.firstCells, sizeOf, typeInfo, hi, hz1, ← hn, hl, hst]
theorem run_copyS_none {w : World} (t e : TypeId) (i0 : TypeInfo) (s : Nat) (hu : Tryz.prog.underlying t = some (.slice e)) (hi : Tryz.prog.info? e = some i0) (hz1 : i0.size = s) (ty : TypeId) (d : Option Addr) (dLen dCap : Nat) (a : Option Addr) (sLen sCap : Nat) (hn : Nat.min sLen dLen = 0) :
    (Builtin.copy_ #[t, t] ty #[.slice d dLen dCap, .slice a sLen sCap]).run Tryz.prog w = .ok (goInt 0) w := by
  have hl : ∀ x, (loadCells x 0).run Tryz.prog w = .ok #[] w := fun x => run_loadCells_list (P := Tryz.prog) w x [] (fun j v h => by cases h)
  cases a <;> cases d <;> simp [Builtin.copy_, run_underlying hu, Builtin.lenOf, Builtin.firstCells, sizeOf, typeInfo, hi, hz1, hn, hl, storeCells]
theorem copy_listS (s : Nat) (fA fB z S : List Value) (hz : z.length = s) : ((fA ++ (fB ++ z) ++ S).take (fA.length + s) ++ fB ++ (fA ++ (fB ++ z) ++ S).drop (fA.length + s + fB.length)) = (fA ++ (fB ++ z).take s ++ fB) ++ S := by
  have h1 : (fA ++ (fB ++ z) ++ S).take (fA.length + s) = fA ++ (fB ++ z).take s := by
    rw [List.append_assoc, List.take_length_add_append, List.take_append_of_le_length (by rw [List.length_append]; omega)]
  have h2 : (fA ++ (fB ++ z) ++ S).drop (fA.length + s + fB.length) = S := by
    rw [show fA.length + s + fB.length = (fA ++ (fB ++ z)).length by rw [List.length_append, List.length_append]; omega]
    exact List.drop_left
  rw [h1, h2]
/-- room for an element in between, behind an append of one -/
theorem own_room {w2 : World} {base g cap n na nb s : Nat} {fA fB z : List Value} (t e : TypeId) (i0 : TypeInfo) (hu : Tryz.prog.underlying t = some (.slice e)) (hi : Tryz.prog.info? e = some i0) (hz1 : i0.size = s)
    (hown2 : w2.ownsRow base e s (.slice (some ⟨g, 0, none⟩) (n + 1) cap) (n + 1) (fA ++ fB ++ z)) (hA : fA.length = na * s) (hB : fB.length = nb * s) (hz : z.length = s) (hn : na + nb = n) (hone : ∀ u ∈ fB, u.oneCell' = true)
    (d2 s2 : Option Addr) (dc sc : Nat) (hd : 0 < nb → d2 = some ⟨g, (na + 1) * s, none⟩) (hs : 0 < nb → s2 = some ⟨g, na * s, none⟩) (ty : TypeId) :
    ∃ w3, (Builtin.copy_ #[t, t] ty #[.slice d2 nb dc, .slice s2 (nb + 1) sc]).run Tryz.prog w2 = .ok (goInt nb) w3 ∧
      (∃ y, y.length = s ∧ w3.ownsRow base e s (.slice (some ⟨g, 0, none⟩) (n + 1) cap) (n + 1) (fA ++ y ++ fB)) ∧ w3.heap.size = w2.heap.size ∧ (∀ b, b ≠ g → w3.heap[b]? = w2.heap[b]?) ∧ Below g w2 w3 := by
  have hmin : Nat.min (nb + 1) nb = nb := Nat.min_eq_right (by omega)
  have hyl : ((fB ++ z).take s).length = s := by rw [List.length_take, List.length_append, hz]; omega
  by_cases hnb : 0 < nb
  · have ed := hd hnb
    have es := hs hnb
    subst ed es
    rcases hown2.2 with ⟨hv, _⟩ | ⟨g', cap', cur, hv, h1, hg, h2, h3, h4, h5⟩
    · cases hv
    · injection hv with e1 e2 e3
      injection e1 with e1
      injection e1 with e1 _ _
      subst e1 e3
      have hcs : ∀ j u, fB[j]? = some u → w2.cell? ((⟨g, na * s, none⟩ : Addr).add j) = some u := fun j u hu => by
        rw [ch.add_at]
        have hc := World.ownsRow.cells hown2 (g := g) rfl (na * s + j) u (by
          have hj : j < fB.length := by
            rcases Nat.lt_or_ge j fB.length with h | h
            · exact h
            · rw [List.getElem?_eq_none h] at hu; cases hu
          rw [List.append_assoc, List.getElem?_append_right (by omega), hA, show na * s + j - na * s = j by omega, List.getElem?_append_left hj]
          exact hu)
        rw [ch.addr_add, Nat.zero_add] at hc
        exact hc
      have hfit : (na + 1) * s + fB.length ≤ cur.size := by
        have h6 : (n + 1) * s ≤ cap * s := Nat.mul_le_mul_right _ h2
        have h7 : (n + 1) * s = (na + 1) * s + nb * s := by rw [← hn, show na + nb + 1 = (na + 1) + nb by omega, Nat.add_mul]
        omega
      have hrun := run_copyS t e i0 s hu hi hz1 ty g ((na + 1) * s) nb dc ⟨g, na * s, none⟩ (nb + 1) sc cur e fB hg (by rw [hmin, hB]) hcs hfit hone
      rw [hmin] at hrun
      obtain ⟨S, hS⟩ : ∃ S, cur.toList = fA ++ (fB ++ z) ++ S := ⟨cur.toList.drop ((n + 1) * s), by
        have e := List.take_append_drop ((n + 1) * s) cur.toList
        rw [h5, List.append_assoc fA fB z] at e
        exact e.symm⟩
      have h8 : (na + 1) * s = fA.length + s := by rw [Nat.add_mul, Nat.one_mul, hA]
      have hnew : cur.toList.take ((na + 1) * s) ++ fB ++ cur.toList.drop ((na + 1) * s + fB.length) = (fA ++ (fB ++ z).take s ++ fB) ++ S := by
        rw [hS, h8]
        exact copy_listS s fA fB z S hz
      rw [hnew] at hrun
      have hlen : (fA ++ (fB ++ z).take s ++ fB).length = (n + 1) * s := by
        simp only [List.length_append, hyl, hA, hB]
        have h7 : (n + 1) * s = (na + 1) * s + nb * s := by rw [← hn, show na + nb + 1 = (na + 1) + nb by omega, Nat.add_mul]
        rw [h7, Nat.add_mul, Nat.one_mul]
      have hsz : cur.size = ((fA ++ (fB ++ z).take s ++ fB) ++ S).length := by
        have h9 : cur.size = cur.toList.length := Array.length_toList.symm
        rw [h9, hS]
        simp only [List.length_append, hyl, hz]
        omega
      refine ⟨_, hrun, ⟨(fB ++ z).take s, hyl, hlen, .inr ⟨g, cap, _, rfl, h1, setRow_heap w2 g cur _ _ _ hg, h2, h3, ?_, ?_⟩⟩, by simp [World.setRow], fun b hb => setRow_other w2 g b _ hb, ⟨rfl, rfl, rfl, by simp [World.setRow], fun k hk => setRow_other w2 g k _ (by omega)⟩⟩
      · rw [List.size_toArray, ← hsz]; exact h4
      · rw [← hlen]
        exact List.take_left
  · have hB0 : fB = [] := List.length_eq_zero_iff.1 (by rw [hB, show nb = 0 by omega, Nat.zero_mul])
    have hb0 : nb = 0 := by omega
    subst hB0 hb0
    have hrun := run_copyS_none (w := w2) t e i0 s hu hi hz1 ty d2 0 dc s2 1 sc rfl
    refine ⟨w2, hrun, ⟨z, hz, by rw [List.append_nil] at hown2 ⊢; exact hown2⟩, rfl, fun b _ => rfl, Below.refl _ _⟩
end Go.Proofs.YtbfbgdinhiglaaaGreat.bt
/- Room within a row of one's own: its spare cells, and a copy into it. -/
namespace Go.Proofs.YtbfbgdinhiglaaaGreat.gr
open Go.ChangeShapes Go.WideShapes Go.ChangeAt Go.RowKit
open vl bt
set_option linter.unusedVariables false
set_option linter.unusedSimpArgs false
/-- one element more, out of the spare cells -/
theorem own_more {w : World} {base : Nat} {e : TypeId} {s n cap g : Nat} {xs : List Value} (h : w.ownsRow base e s (.slice (some ⟨g, 0, none⟩) n cap) n xs) (hc : n + 1 ≤ cap) : ∃ z, z.length = s ∧ w.ownsRow base e s (.slice (some ⟨g, 0, none⟩) (n + 1) cap) (n + 1) (xs ++ z) := by
  rcases h.2 with ⟨hv, _⟩ | ⟨g', cap', cur, hv, h1, hg, h2, h3, h4, h5⟩
  · cases hv
  · cases hv
    have hm : (n + 1) * s ≤ cap * s := Nat.mul_le_mul_right _ hc
    have hs : (n + 1) * s = n * s + s := by rw [Nat.add_mul, Nat.one_mul]
    have hcl : cur.toList.length = cap * s := by rw [Array.length_toList]; exact h4
    have e1 : cur.toList.take ((n + 1) * s) = xs ++ (cur.toList.drop (n * s)).take s := by
      rw [hs, List.take_add, h5]
    have hzl : ((cur.toList.drop (n * s)).take s).length = s := by rw [List.length_take, List.length_drop, hcl]; omega
    refine ⟨(cur.toList.drop (n * s)).take s, hzl, ?_, .inr ⟨g, cap, cur, rfl, h1, hg, hc, h3, h4, e1⟩⟩
    rw [List.length_append, hzl, h.1, hs]
/-- cells written over within a row -/
theorem own_write {w : World} {base : Nat} {e : TypeId} {s n cap g : Nat} {xs : List Value} (h : w.ownsRow base e s (.slice (some ⟨g, 0, none⟩) n cap) n xs) (t : TypeId) (i0 : TypeInfo) (hu : Tryz.prog.underlying t = some (.slice e)) (hi : Tryz.prog.info? e = some i0) (hz1 : i0.size = s) (ty : TypeId)
    (A y B news : List Value) (na : Nat) (hx : xs = A ++ y ++ B) (hA : A.length = na * s) (hy : y.length = news.length) (hnl : news.length = s) (dLen dCap : Nat) (hd : 0 < dLen) (a : Addr) (sCap : Nat) (hsrc : ∀ j v, news[j]? = some v → w.cell? (a.add j) = some v) (hone : ∀ v ∈ news, v.oneCell' = true) :
    ∃ w3, (Builtin.copy_ #[t, t] ty #[.slice (some ⟨g, na * s, none⟩) dLen dCap, .slice (some a) 1 sCap]).run Tryz.prog w = .ok (goInt 1) w3 ∧ w3.ownsRow base e s (.slice (some ⟨g, 0, none⟩) n cap) n (A ++ news ++ B) ∧ w3.heap.size = w.heap.size ∧ (∀ b, b ≠ g → w3.heap[b]? = w.heap[b]?) ∧ Below g w w3 := by
  rcases h.2 with ⟨hv, _⟩ | ⟨g', cap', cur, hv, h1, hg, h2, h3, h4, h5⟩
  · cases hv
  · cases hv
    have hxl : xs.length = n * s := h.1
    have hm : n * s ≤ cap * s := Nat.mul_le_mul_right _ h2
    have hmin : Nat.min 1 dLen = 1 := Nat.min_eq_left hd
    have hl : A.length + news.length + B.length = n * s := by rw [← hxl, hx]; simp only [List.length_append, hy]
    have hrun := run_copyS t e i0 s hu hi hz1 ty g (na * s) dLen dCap a 1 sCap cur e news hg (by rw [hmin, Nat.one_mul]; exact hnl) hsrc (by rw [h4, ← hA]; omega) hone
    rw [hmin] at hrun
    obtain ⟨S, hS⟩ : ∃ S, cur.toList = A ++ y ++ B ++ S := ⟨cur.toList.drop (n * s), by
      have e := List.take_append_drop (n * s) cur.toList
      rw [h5, hx] at e
      exact e.symm⟩
    have hnew : cur.toList.take (na * s) ++ news ++ cur.toList.drop (na * s + news.length) = (A ++ news ++ B) ++ S := by
      rw [hS, ← hA, ← hy]
      have e1 : (A ++ y ++ B ++ S).take A.length = A := by rw [List.append_assoc, List.append_assoc]; exact List.take_left
      have e2 : (A ++ y ++ B ++ S).drop (A.length + y.length) = B ++ S := by
        rw [← List.length_append, List.append_assoc (A ++ y)]; exact List.drop_left
      rw [e1, e2]
      simp only [List.append_assoc]
    rw [hnew] at hrun
    have hsz : ((A ++ news ++ B) ++ S).length = cur.size := by
      have h9 : cur.size = cur.toList.length := Array.length_toList.symm
      rw [h9, hS]
      simp only [List.length_append, hy]
    refine ⟨_, hrun, ⟨by simp only [List.length_append]; exact hl, .inr ⟨g, cap, _, rfl, h1, setRow_heap w g cur _ _ _ hg, h2, h3, ?_, ?_⟩⟩, by simp [World.setRow], fun b hb => setRow_other w g b _ hb, ⟨rfl, rfl, rfl, by simp [World.setRow], fun k hk => setRow_other w g k _ (by omega)⟩⟩
    · rw [List.size_toArray, hsz]; exact h4
    · rw [show n * s = (A ++ news ++ B).length by simp only [List.length_append]; omega]
      exact List.take_left
end Go.Proofs.YtbfbgdinhiglaaaGreat.gr
