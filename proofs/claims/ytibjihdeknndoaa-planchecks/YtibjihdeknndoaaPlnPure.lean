/- Plans as numbers and lists, in memory, and what is wrong with one (D1). -/
import Derived.Test.YtibjihdeknndoaaValOpen
import Derived.Test.YtibjihdeknndoaaTimesRefs
namespace Go.Proofs.Ytibjihdeknndoaa.pl
open Go.ChangeShapes Go.WideShapes Go.ChangeAt Go.RowKit
open vl
set_option linter.unusedVariables false
set_option linter.unusedSimpArgs false

/-- a slice that begins at a has these numbers -/
def intsAt (w : World) (a : Option Addr) (l : List Int) : Prop :=
  ∀ i, i < l.length → ∃ b off, a = some ⟨b, off, none⟩ ∧ w.cell? ⟨b, off + i, none⟩ = some (.int .i64 (l.getD i 0))
/-- a slice that begins at a has these figures -/
def aggsAt (w : World) (a : Option Addr) (l : List (Int × Int)) : Prop :=
  ∀ i, i < l.length → ∃ b off, a = some ⟨b, off, none⟩ ∧ w.cell? ⟨b, off + i * 2, none⟩ = some (.int .i64 (l.getD i (0, 0)).1) ∧ w.cell? ⟨b, off + i * 2 + 1, none⟩ = some (.int .i64 (l.getD i (0, 0)).2)
theorem intsAt_below {w w' : World} {a : Option Addr} {l : List Int} (h : intsAt w a l) (hb : Below w.heap.size w w') : intsAt w' a l := by
  intro i hi
  obtain ⟨b, o, e, x⟩ := h i hi
  exact ⟨b, o, e, cell_later hb x⟩
theorem aggsAt_below {w w' : World} {a : Option Addr} {l : List (Int × Int)} (h : aggsAt w a l) (hb : Below w.heap.size w w') : aggsAt w' a l := by
  intro i hi
  obtain ⟨b, o, e, x, y⟩ := h i hi
  exact ⟨b, o, e, cell_later hb x, cell_later hb y⟩

structure Pln where
  kind : Int
  mode : Int
  low : Int
  high : Int
  size : Int
  limit : Int
  left : List Int
  right : List Int
  lkeys : List Int
  rkeys : List Int
  grouped : Bool
  group : List Int
  aggs : List (Int × Int)

/-- where the lists of a plan lie -/
structure PA where
  l : Option Addr
  lc : Nat
  r : Option Addr
  rc : Nat
  lk : Option Addr
  lkc : Nat
  rk : Option Addr
  rkc : Nat
  g : Option Addr
  gc : Nat
  a : Option Addr
  ac : Nat
def planV (p : Pln) (x : PA) : Value :=
  .agg #[.int .i64 p.kind, .int .i64 p.mode, .int .i64 p.low, .int .i64 p.high, .int .i64 p.size, .int .i64 p.limit,
    .slice x.l p.left.length x.lc, .slice x.r p.right.length x.rc, .slice x.lk p.lkeys.length x.lkc, .slice x.rk p.rkeys.length x.rkc, .bool p.grouped, .slice x.g p.group.length x.gc, .slice x.a p.aggs.length x.ac]
structure planAt (w : World) (p : Pln) (x : PA) : Prop where
  l : intsAt w x.l p.left
  r : intsAt w x.r p.right
  lk : intsAt w x.lk p.lkeys
  rk : intsAt w x.rk p.rkeys
  g : intsAt w x.g p.group
  a : aggsAt w x.a p.aggs
theorem planAt_below {w w' : World} {p : Pln} {x : PA} (h : planAt w p x) (hb : Below w.heap.size w w') : planAt w' p x :=
  ⟨intsAt_below h.l hb, intsAt_below h.r hb, intsAt_below h.lk hb, intsAt_below h.rk hb, intsAt_below h.g hb, aggsAt_below h.a hb⟩
def i64 (n : Int) : Prop := -9223372036854775808 ≤ n ∧ n ≤ 9223372036854775807
structure wfPlan (p : Pln) : Prop where
  low : i64 p.low
  high : i64 p.high
  l : p.left.length ≤ 9223372036854775807
  r : p.right.length ≤ 9223372036854775807
  lk : p.lkeys.length ≤ 9223372036854775807
  rk : p.rkeys.length ≤ 9223372036854775807
  g : p.group.length ≤ 9223372036854775807
  a : p.aggs.length ≤ 9223372036854775807

def fit (t : Int) : Prop := -1099511627776 ≤ t ∧ t ≤ 1099511627776
instance (t : Int) : Decidable (fit t) := by unfold fit; infer_instance
def kindsOk (p : Pln) : Prop := (1 ≤ p.kind ∧ p.kind ≤ 3) ∧ (1 ≤ p.mode ∧ p.mode ≤ (if p.kind = 3 then 2 else 4)) ∧ (p.grouped = true → ∀ a ∈ p.aggs, 1 ≤ a.1 ∧ a.1 ≤ 4)
def rangesOk (p : Pln) : Prop := (if p.kind = 1 then fit p.low ∧ fit p.high else p.low = 0 ∧ p.high = 0) ∧ (if p.kind = 2 then 1 ≤ p.size ∧ p.size ≤ 1099511627776 else p.size = 0) ∧ (1 ≤ p.limit ∧ p.limit ≤ 64)
def len14 (n : Nat) : Prop := 1 ≤ n ∧ n ≤ 4
instance (n : Nat) : Decidable (len14 n) := by unfold len14; infer_instance
def manyOk (p : Pln) : Prop := (len14 p.left.length ∧ len14 p.right.length ∧ len14 p.lkeys.length ∧ len14 p.rkeys.length) ∧ (if p.grouped = true then len14 p.aggs.length ∧ p.group.length + p.aggs.length ≤ 8 else p.group.length = 0 ∧ p.aggs.length = 0)
def cols (p : Pln) : List Int := p.left ++ p.right
def typesOk (p : Pln) : Prop := ∀ c ∈ cols p, 1 ≤ c ∧ c ≤ 3
def placesOk (l : List Int) (n : Nat) : Prop := (∀ x ∈ l, 0 ≤ x ∧ x < (n : Int)) ∧ l.Pairwise (· ≠ ·)
def pairsOk (p : Pln) : Prop := ∀ i, i < p.lkeys.length → p.left.getD (p.lkeys.getD i 0).toNat 0 = p.right.getD (p.rkeys.getD i 0).toNat 0
def aggOk (c : List Int) (a : Int × Int) : Prop := if a.1 = 1 then a.2 = 0 else (0 ≤ a.2 ∧ a.2 < (c.length : Int)) ∧ (a.1 = 2 → c.getD a.2.toNat 0 = 2)
def keysOk (p : Pln) : Prop := p.lkeys.length = p.rkeys.length ∧ placesOk p.lkeys p.left.length ∧ placesOk p.rkeys p.right.length ∧ pairsOk p
def formOk (p : Pln) : Prop := p.low ≤ p.high ∧ keysOk p ∧ placesOk p.group (cols p).length ∧ (∀ a ∈ p.aggs, aggOk (cols p) a)
instance (p : Pln) : Decidable (kindsOk p) := by unfold kindsOk; infer_instance
instance (p : Pln) : Decidable (rangesOk p) := by unfold rangesOk; infer_instance
instance (p : Pln) : Decidable (manyOk p) := by unfold manyOk; infer_instance
instance (p : Pln) : Decidable (typesOk p) := by unfold typesOk; infer_instance
instance (l : List Int) (n : Nat) : Decidable (placesOk l n) := by unfold placesOk; infer_instance
instance (p : Pln) : Decidable (pairsOk p) := by unfold pairsOk; infer_instance
instance (c : List Int) (a : Int × Int) : Decidable (aggOk c a) := by unfold aggOk; infer_instance
instance (p : Pln) : Decidable (keysOk p) := by unfold keysOk; infer_instance
instance (p : Pln) : Decidable (formOk p) := by unfold formOk; infer_instance
/-- D1: what is wrong with a plan -/
def planErr (p : Pln) : Int :=
  if ¬ kindsOk p then 4 else if ¬ rangesOk p then 3 else if ¬ manyOk p then 2 else if ¬ typesOk p then 5 else if ¬ formOk p then 1 else 0
theorem planErr_ok {p : Pln} (h : planErr p = 0) : kindsOk p ∧ rangesOk p ∧ manyOk p ∧ typesOk p ∧ formOk p := by
  unfold planErr at h
  by_cases h1 : kindsOk p
  · by_cases h2 : rangesOk p
    · by_cases h3 : manyOk p
      · by_cases h4 : typesOk p
        · by_cases h5 : formOk p
          · exact ⟨h1, h2, h3, h4, h5⟩
          · rw [if_neg (by simp [h1]), if_neg (by simp [h2]), if_neg (by simp [h3]), if_neg (by simp [h4]), if_pos h5] at h; cases h
        · rw [if_neg (by simp [h1]), if_neg (by simp [h2]), if_neg (by simp [h3]), if_pos h4] at h; cases h
      · rw [if_neg (by simp [h1]), if_neg (by simp [h2]), if_pos h3] at h; cases h
    · rw [if_neg (by simp [h1]), if_pos h2] at h; cases h
  · rw [if_pos h1] at h; cases h
end Go.Proofs.Ytibjihdeknndoaa.pl
