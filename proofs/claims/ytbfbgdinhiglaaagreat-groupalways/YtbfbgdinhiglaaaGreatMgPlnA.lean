import Derived.Test.YtbfbgdinhiglaaaGreatMgValB
import Derived.Test.YtbfbgdinhiglaaaGreatMgTimes
import Derived.ChangeSame
import Derived.Lib.SmallJoins
/- Several texts in one: PlnPure, PlnOpen, PlnBase, PlnEvery, PlnKinds, PlnRanges, PlnConcat. -/
/- Plans as numbers and lists, in memory, and what is wrong with one (D1). -/
namespace Go.Proofs.YtbfbgdinhiglaaaGreat.pl
open Go.ChangeShapes Go.WideShapes Go.ChangeAt Go.RowKit
open vl
set_option linter.unusedVariables false
set_option linter.unusedSimpArgs false

/-- a slice that begins at a has these numbers -/
def intsAt (w : World) (a : Option Addr) (l : List Int) : Prop :=
  ∀ i, i < l.length → ∃ b off, a = some ⟨b, off, none⟩ ∧ w.cell? ⟨b, off + i, none⟩ = some (.int .i64 (l.getD i 0))
/-- a slice that begins at a has these figures -/
def aggsAt (w : World) (a : Option Addr) (l : List (Int × Int)) : Prop :=
  ∀ i, i < l.length → ∃ b off, a = some ⟨b, off, none⟩ ∧ w.cell? ⟨b, off + i * 2, none⟩ = some (.int .i64 (l.getD i (0, 0)).1) ∧ w.cell? ⟨b, off + i * 2 + 1, none⟩ = some (.int .i64 (l.getD i (0, 0)).2)
theorem intsAt_below {w w' : World} {a : Option Addr} {l : List Int} (h : intsAt w a l) (hb : Below w.heap.size w w') : intsAt w' a l := by
  intro i hi
  obtain ⟨b, o, e, x⟩ := h i hi
  exact ⟨b, o, e, cell_later hb x⟩
theorem aggsAt_below {w w' : World} {a : Option Addr} {l : List (Int × Int)} (h : aggsAt w a l) (hb : Below w.heap.size w w') : aggsAt w' a l := by
  intro i hi
  obtain ⟨b, o, e, x, y⟩ := h i hi
  exact ⟨b, o, e, cell_later hb x, cell_later hb y⟩

structure Pln where
  kind : Int
  mode : Int
  low : Int
  high : Int
  size : Int
  limit : Int
  left : List Int
  right : List Int
  lkeys : List Int
  rkeys : List Int
  grouped : Bool
  group : List Int
  aggs : List (Int × Int)

/-- where the lists of a plan lie -/
structure PA where
  l : Option Addr
  lc : Nat
  r : Option Addr
  rc : Nat
  lk : Option Addr
  lkc : Nat
  rk : Option Addr
  rkc : Nat
  g : Option Addr
  gc : Nat
  a : Option Addr
  ac : Nat
def planV (p : Pln) (x : PA) : Value :=
  .agg #[.int .i64 p.kind, .int .i64 p.mode, .int .i64 p.low, .int .i64 p.high, .int .i64 p.size, .int .i64 p.limit,
    .slice x.l p.left.length x.lc, .slice x.r p.right.length x.rc, .slice x.lk p.lkeys.length x.lkc, .slice x.rk p.rkeys.length x.rkc, .bool p.grouped, .slice x.g p.group.length x.gc, .slice x.a p.aggs.length x.ac]
structure planAt (w : World) (p : Pln) (x : PA) : Prop where
  l : intsAt w x.l p.left
  r : intsAt w x.r p.right
  lk : intsAt w x.lk p.lkeys
  rk : intsAt w x.rk p.rkeys
  g : intsAt w x.g p.group
  a : aggsAt w x.a p.aggs
theorem planAt_below {w w' : World} {p : Pln} {x : PA} (h : planAt w p x) (hb : Below w.heap.size w w') : planAt w' p x :=
  ⟨intsAt_below h.l hb, intsAt_below h.r hb, intsAt_below h.lk hb, intsAt_below h.rk hb, intsAt_below h.g hb, aggsAt_below h.a hb⟩
def i64 (n : Int) : Prop := -9223372036854775808 ≤ n ∧ n ≤ 9223372036854775807
structure wfPlan (p : Pln) : Prop where
  low : i64 p.low
  high : i64 p.high
  l : p.left.length ≤ 9223372036854775807
  r : p.right.length ≤ 9223372036854775807
  lk : p.lkeys.length ≤ 9223372036854775807
  rk : p.rkeys.length ≤ 9223372036854775807
  g : p.group.length ≤ 9223372036854775807
  a : p.aggs.length ≤ 9223372036854775807

def fit (t : Int) : Prop := -1099511627776 ≤ t ∧ t ≤ 1099511627776
instance (t : Int) : Decidable (fit t) := by unfold fit; infer_instance
def kindsOk (p : Pln) : Prop := (1 ≤ p.kind ∧ p.kind ≤ 3) ∧ (1 ≤ p.mode ∧ p.mode ≤ (if p.kind = 3 then 2 else 4)) ∧ (p.grouped = true → ∀ a ∈ p.aggs, 1 ≤ a.1 ∧ a.1 ≤ 4)
def rangesOk (p : Pln) : Prop := (if p.kind = 1 then fit p.low ∧ fit p.high else p.low = 0 ∧ p.high = 0) ∧ (if p.kind = 2 then 1 ≤ p.size ∧ p.size ≤ 1099511627776 else p.size = 0) ∧ (1 ≤ p.limit ∧ p.limit ≤ 64)
def len14 (n : Nat) : Prop := 1 ≤ n ∧ n ≤ 4
instance (n : Nat) : Decidable (len14 n) := by unfold len14; infer_instance
def manyOk (p : Pln) : Prop := (len14 p.left.length ∧ len14 p.right.length ∧ len14 p.lkeys.length ∧ len14 p.rkeys.length) ∧ (if p.grouped = true then len14 p.aggs.length ∧ p.group.length + p.aggs.length ≤ 8 else p.group.length = 0 ∧ p.aggs.length = 0)
def cols (p : Pln) : List Int := p.left ++ p.right
def typesOk (p : Pln) : Prop := ∀ c ∈ cols p, 1 ≤ c ∧ c ≤ 3
def placesOk (l : List Int) (n : Nat) : Prop := (∀ x ∈ l, 0 ≤ x ∧ x < (n : Int)) ∧ l.Pairwise (· ≠ ·)
def pairsOk (p : Pln) : Prop := ∀ i, i < p.lkeys.length → p.left.getD (p.lkeys.getD i 0).toNat 0 = p.right.getD (p.rkeys.getD i 0).toNat 0
def aggOk (c : List Int) (a : Int × Int) : Prop := if a.1 = 1 then a.2 = 0 else (0 ≤ a.2 ∧ a.2 < (c.length : Int)) ∧ (a.1 = 2 → c.getD a.2.toNat 0 = 2)
def keysOk (p : Pln) : Prop := p.lkeys.length = p.rkeys.length ∧ placesOk p.lkeys p.left.length ∧ placesOk p.rkeys p.right.length ∧ pairsOk p
def formOk (p : Pln) : Prop := p.low ≤ p.high ∧ keysOk p ∧ placesOk p.group (cols p).length ∧ (∀ a ∈ p.aggs, aggOk (cols p) a)
instance (p : Pln) : Decidable (kindsOk p) := by unfold kindsOk; infer_instance
instance (p : Pln) : Decidable (rangesOk p) := by unfold rangesOk; infer_instance
instance (p : Pln) : Decidable (manyOk p) := by unfold manyOk; infer_instance
instance (p : Pln) : Decidable (typesOk p) := by unfold typesOk; infer_instance
instance (l : List Int) (n : Nat) : Decidable (placesOk l n) := by unfold placesOk; infer_instance
instance (p : Pln) : Decidable (pairsOk p) := by unfold pairsOk; infer_instance
instance (c : List Int) (a : Int × Int) : Decidable (aggOk c a) := by unfold aggOk; infer_instance
instance (p : Pln) : Decidable (keysOk p) := by unfold keysOk; infer_instance
instance (p : Pln) : Decidable (formOk p) := by unfold formOk; infer_instance
/-- D1: what is wrong with a plan -/
def planErr (p : Pln) : Int :=
  if ¬ kindsOk p then 4 else if ¬ rangesOk p then 3 else if ¬ manyOk p then 2 else if ¬ typesOk p then 5 else if ¬ formOk p then 1 else 0
theorem planErr_ok {p : Pln} (h : planErr p = 0) : kindsOk p ∧ rangesOk p ∧ manyOk p ∧ typesOk p ∧ formOk p := by
  unfold planErr at h
  by_cases h1 : kindsOk p
  · by_cases h2 : rangesOk p
    · by_cases h3 : manyOk p
      · by_cases h4 : typesOk p
        · by_cases h5 : formOk p
          · exact ⟨h1, h2, h3, h4, h5⟩
          · rw [if_neg (by simp [h1]), if_neg (by simp [h2]), if_neg (by simp [h3]), if_neg (by simp [h4]), if_pos h5] at h; cases h
        · rw [if_neg (by simp [h1]), if_neg (by simp [h2]), if_neg (by simp [h3]), if_pos h4] at h; cases h
      · rw [if_neg (by simp [h1]), if_neg (by simp [h2]), if_pos h3] at h; cases h
    · rw [if_neg (by simp [h1]), if_pos h2] at h; cases h
  · rw [if_pos h1] at h; cases h
end Go.Proofs.YtbfbgdinhiglaaaGreat.pl

/- What is read of a plan that came in. -/
namespace Go.Proofs.YtbfbgdinhiglaaaGreat.pl
open Go.ChangeShapes Go.WideShapes Go.ChangeAt Go.RowKit Go.Joins Go.Deep
open vl
set_option linter.unusedVariables false
set_option linter.unusedSimpArgs false

theorem cellsA : Tryz.prog.cellsOf 60 = 2 := by kernel_rfl
theorem cellsP : Tryz.prog.cellsOf 25 = 13 := by kernel_rfl
theorem cellsIs : Tryz.prog.cellsOf 22 = 1 := by kernel_rfl
theorem cellsAs : Tryz.prog.cellsOf 23 = 1 := by kernel_rfl
theorem cellsB : Tryz.prog.cellsOf 4 = 1 := by kernel_rfl

section
variable {H : Type} {enc : TypeId × Value → H} {w : World} {base : Nat} {spare : Nat → Bool} {held : Bool}

set_option maxRecDepth 100000 in
theorem open_icell {x : Addr} {cs : List Value} {y : DataW H × List MemPlace} {fuel : Nat} (hc : w.cells? base x 1 = some cs) (ht : DataW.trod enc Tryz.prog w base spare held fuel 3 cs = some y) :
    ∃ (b off : Nat) (n : Int), x = ⟨b, off, none⟩ ∧ w.cell? ⟨b, off, none⟩ = some (.int .i64 n) ∧ i64 n := by
  obtain ⟨_, hlen, hat⟩ := World.cells?_some hc
  obtain ⟨n, e0, _, wn⟩ := DataW.trod_int Tryz.underlying3 ht
  subst e0
  obtain ⟨b, off, spot⟩ := x
  have g0 := hat 0 (by omega)
  have hspot : spot = none := by simpa [Addr.add] using World.cell?_spot g0
  subst hspot
  exact ⟨b, off, n, rfl, by simpa [Addr.add] using g0, bounds_i64 wn⟩
set_option maxRecDepth 100000 in
theorem open_acell {x : Addr} {cs : List Value} {y : DataW H × List MemPlace} {fuel : Nat} (hc : w.cells? base x 2 = some cs) (ht : DataW.trod enc Tryz.prog w base spare held fuel 60 cs = some y) :
    ∃ (b off : Nat) (n m : Int), x = ⟨b, off, none⟩ ∧ w.cell? ⟨b, off, none⟩ = some (.int .i64 n) ∧ w.cell? ⟨b, off + 1, none⟩ = some (.int .i64 m) ∧ i64 n ∧ i64 m := by
  obtain ⟨_, hlen, hat⟩ := World.cells?_some hc
  obtain ⟨y0, y1, k, _, _, h0, h1⟩ := trod_struct2 Tryz.underlying60 ht
  match cs, hlen with
  | [a0, a1], _ =>
    obtain ⟨n, e0, _, wn⟩ := DataW.trod_int Tryz.underlying3 h0
    obtain ⟨m, e1, _, wm⟩ := DataW.trod_int Tryz.underlying3 h1
    simp [cellsInt] at e0
    simp [cellsInt] at e1
    subst e0 e1
    obtain ⟨b, off, spot⟩ := x
    have g0 := hat 0 (by omega)
    have g1 := hat 1 (by omega)
    have hspot : spot = none := by simpa [Addr.add] using World.cell?_spot g0
    subst hspot
    exact ⟨b, off, n, m, rfl, by simpa [Addr.add] using g0, by simpa [Addr.add] using g1, bounds_i64 wn, bounds_i64 wm⟩

theorem open_ints {v : Value} {y : DataW H × List MemPlace} {fuel : Nat} (hf : DataW.trod enc Tryz.prog w base spare held fuel 22 [v] = some y) :
    ∃ a cap l, v = .slice a (List.length (α := Int) l) cap ∧ intsAt w a l ∧ l.length ≤ 9223372036854775807 ∧ ∀ n ∈ l, i64 n := by
  rcases open_slice Tryz.underlying22 hf with ⟨hcs, _⟩ | ⟨x, len, cap, m, n, D, Pl, hcs, _, hl, hm, hmm, _, hel⟩
  · simp at hcs
    subst hcs
    exact ⟨none, 0, [], rfl, fun i hi => absurd hi (Nat.not_lt_zero i), by simp, fun n hn => by cases hn⟩
  · simp at hcs
    subst hcs
    have hle : len ≤ m := by rw [hmm]; split <;> omega
    rw [cellsInt] at hel
    obtain ⟨f, hfam⟩ := choose_lt (α := Int) (n := len) (p := fun i c => ∃ b off, x = ⟨b, off, none⟩ ∧ w.cell? ⟨b, off + i, none⟩ = some (.int .i64 c) ∧ i64 c) (fun i hi => by
      obtain ⟨cs', h1, h2⟩ := hel i (by omega)
      obtain ⟨b, off, c, e, g0, hw⟩ := open_icell h1 h2
      obtain ⟨cs0, z1, z2⟩ := hel 0 (by omega)
      obtain ⟨b0, off0, c0, e0, _⟩ := open_icell z1 z2
      have ex : x = ⟨b0, off0, none⟩ := by simpa [Addr.add] using e0
      subst ex
      have ea : (⟨b0, off0, none⟩ : Addr).add (i * 1) = ⟨b0, off0 + i, none⟩ := by unfold Addr.add; split <;> simp_all
      rw [ea] at e
      cases e
      exact ⟨c, b, off0, rfl, g0, hw⟩)
    refine ⟨some x, cap, (List.range len).map f, by simp, ?_, by unfold maxLen at hm; simp; omega, ?_⟩
    · intro i hi
      have hi' : i < len := by simpa using hi
      obtain ⟨b, off, rfl, g0, _⟩ := hfam i hi'
      have e : ((List.range len).map f).getD i 0 = f i := by simp [List.getD_eq_getElem?_getD, hi']
      rw [e]
      exact ⟨b, off, rfl, g0⟩
    · intro c hc
      obtain ⟨i, hi, rfl⟩ := List.mem_map.1 hc
      obtain ⟨_, _, _, _, hw⟩ := hfam i (by simpa using hi)
      exact hw
theorem open_aggs {v : Value} {y : DataW H × List MemPlace} {fuel : Nat} (hf : DataW.trod enc Tryz.prog w base spare held fuel 23 [v] = some y) :
    ∃ a cap l, v = .slice a (List.length (α := Int × Int) l) cap ∧ aggsAt w a l ∧ l.length ≤ 9223372036854775807 ∧ ∀ n ∈ l, i64 n.1 ∧ i64 n.2 := by
  rcases open_slice Tryz.underlying23 hf with ⟨hcs, _⟩ | ⟨x, len, cap, m, n, D, Pl, hcs, _, hl, hm, hmm, _, hel⟩
  · simp at hcs
    subst hcs
    exact ⟨none, 0, [], rfl, fun i hi => absurd hi (Nat.not_lt_zero i), by simp, fun n hn => by cases hn⟩
  · simp at hcs
    subst hcs
    have hle : len ≤ m := by rw [hmm]; split <;> omega
    rw [cellsA] at hel
    obtain ⟨f, hfam⟩ := choose_lt (α := Int × Int) (n := len) (p := fun i c => ∃ b off, x = ⟨b, off, none⟩ ∧ w.cell? ⟨b, off + i * 2, none⟩ = some (.int .i64 c.1) ∧ w.cell? ⟨b, off + i * 2 + 1, none⟩ = some (.int .i64 c.2) ∧ i64 c.1 ∧ i64 c.2) (fun i hi => by
      obtain ⟨cs', h1, h2⟩ := hel i (by omega)
      obtain ⟨b, off, c, d, e, g0, g1, hw⟩ := open_acell h1 h2
      obtain ⟨cs0, z1, z2⟩ := hel 0 (by omega)
      obtain ⟨b0, off0, c0, d0, e0, _⟩ := open_acell z1 z2
      have ex : x = ⟨b0, off0, none⟩ := by simpa [Addr.add] using e0
      subst ex
      have ea : (⟨b0, off0, none⟩ : Addr).add (i * 2) = ⟨b0, off0 + i * 2, none⟩ := by unfold Addr.add; split <;> simp_all
      rw [ea] at e
      cases e
      exact ⟨(c, d), b, off0, rfl, g0, g1, hw⟩)
    refine ⟨some x, cap, (List.range len).map f, by simp, ?_, by unfold maxLen at hm; simp; omega, ?_⟩
    · intro i hi
      have hi' : i < len := by simpa using hi
      obtain ⟨b, off, rfl, g0, g1, _⟩ := hfam i hi'
      have e : ((List.range len).map f).getD i (0, 0) = f i := by simp [List.getD_eq_getElem?_getD, hi']
      rw [e]
      exact ⟨b, off, rfl, g0, g1⟩
    · intro c hc
      obtain ⟨i, hi, rfl⟩ := List.mem_map.1 hc
      obtain ⟨_, _, _, _, _, hw⟩ := hfam i (by simpa using hi)
      exact hw

theorem array13 {cs : Array Value} (h : cs.size = 13) : ∃ a b c d e f g h i j k l m, cs = #[a, b, c, d, e, f, g, h, i, j, k, l, m] := by
  obtain ⟨l⟩ := cs
  match l, h with
  | [a, b, c, d, e, f, g, h, i, j, k, l, m], _ => exact ⟨a, b, c, d, e, f, g, h, i, j, k, l, m, rfl⟩

set_option maxRecDepth 100000 in
set_option maxHeartbeats 1000000 in
theorem open_plan {r : Reach} {b0 : Nat} {v : Value} {d : DataW H} {pl : List MemPlace} (hv : Value.okWide Tryz.prog w r b0 25 v) (h : DataW.Trod enc Tryz.prog w base spare held 25 v d pl) :
    ∃ p x, v = planV p x ∧ planAt w p x ∧ wfPlan p := by
  obtain ⟨cs, rfl, hsz⟩ := okWide_struct Tryz.underlying25 hv
  obtain ⟨c0, c1, c2, c3, c4, c5, c6, c7, c8, c9, c10, c11, c12, rfl⟩ := array13 (hsz.trans cellsP)
  obtain ⟨fuel, hf⟩ := h
  obtain ⟨xs, n, _, _, _, hlen, hat⟩ := DataW.trod_struct Tryz.underlying25 hf
  match xs, hlen with
  | [y0, y1, y2, y3, y4, y5, y6, y7, y8, y9, y10, y11, y12], _ =>
    have h0 := hat 0 _ rfl
    have h1 := hat 1 _ rfl
    have h2 := hat 2 _ rfl
    have h3 := hat 3 _ rfl
    have h4 := hat 4 _ rfl
    have h5 := hat 5 _ rfl
    have h6 := hat 6 _ rfl
    have h7 := hat 7 _ rfl
    have h8 := hat 8 _ rfl
    have h9 := hat 9 _ rfl
    have h10 := hat 10 _ rfl
    have h11 := hat 11 _ rfl
    have h12 := hat 12 _ rfl
    simp [Value.cells, cellsInt] at h0 h1 h2 h3 h4 h5
    simp [Value.cells, cellsIs] at h6 h7 h8 h9 h11
    simp [Value.cells, cellsB] at h10
    simp [Value.cells, cellsAs] at h12
    obtain ⟨n0, e0, _, w0⟩ := DataW.trod_int Tryz.underlying3 h0
    obtain ⟨n1, e1, _, w1⟩ := DataW.trod_int Tryz.underlying3 h1
    obtain ⟨n2, e2, _, w2⟩ := DataW.trod_int Tryz.underlying3 h2
    obtain ⟨n3, e3, _, w3⟩ := DataW.trod_int Tryz.underlying3 h3
    obtain ⟨n4, e4, _, w4⟩ := DataW.trod_int Tryz.underlying3 h4
    obtain ⟨n5, e5, _, w5⟩ := DataW.trod_int Tryz.underlying3 h5
    obtain ⟨a6, k6, l6, e6, i6, m6, j6⟩ := open_ints h6
    obtain ⟨a7, k7, l7, e7, i7, m7, j7⟩ := open_ints h7
    obtain ⟨a8, k8, l8, e8, i8, m8, j8⟩ := open_ints h8
    obtain ⟨a9, k9, l9, e9, i9, m9, j9⟩ := open_ints h9
    obtain ⟨n10, e10, _⟩ := DataW.trod_bool Tryz.underlying4 h10
    obtain ⟨a11, k11, l11, e11, i11, m11, j11⟩ := open_ints h11
    obtain ⟨a12, k12, l12, e12, i12, m12, j12⟩ := open_aggs h12
    simp only [List.cons.injEq, and_true] at e0 e1 e2 e3 e4 e5 e10
    subst e0 e1 e2 e3 e4 e5 e6 e7 e8 e9 e10 e11 e12
    exact ⟨⟨n0, n1, n2, n3, n4, n5, l6, l7, l8, l9, n10, l11, l12⟩, ⟨a6, k6, a7, k7, a8, k8, a9, k9, a11, k11, a12, k12⟩, rfl, ⟨i6, i7, i8, i9, i11, i12⟩, ⟨bounds_i64 w2, bounds_i64 w3, m6, m7, m8, m9, m11, m12⟩⟩
end
end Go.Proofs.YtbfbgdinhiglaaaGreat.pl

/- The smallest functions of package plan and of the reference: between, within; and lists.Every at each type, with whatever function it is handed. -/
namespace Go.Proofs.YtbfbgdinhiglaaaGreat.pl
open Go.ChangeShapes Go.WideShapes Go.ChangeAt Go.RowKit
open vl
set_option linter.unusedVariables false
set_option linter.unusedSimpArgs false

def betw (n a b : Int) : Bool := decide (a ≤ n ∧ n ≤ b)
theorem betw_iff (n a b : Int) : betw n a b = true ↔ (a ≤ n ∧ n ≤ b) := by simp [betw]
theorem betw_no (n a b : Int) : betw n a b = false ↔ ¬ (a ≤ n ∧ n ≤ b) := by unfold betw; exact decide_eq_false_iff_not
theorem between_any (n a b : Int) (w : World) :
    Calls Tryz.prog 109 #[.int .i64 n, .int .i64 a, .int .i64 b] w fun e w' => e = .returned (.bool (betw n a b)) ∧ w' = w := by
  by_cases h1 : a ≤ n
  · by_cases h2 : n ≤ b
    · rw [(betw_iff n a b).2 ⟨h1, h2⟩]
      go_enter Tryz.func109, Tryz.ntmps109
      go_wp2
      go_ret
      exact ⟨rfl, rfl⟩
    · rw [(betw_no n a b).2 (by omega)]
      go_enter Tryz.func109, Tryz.ntmps109
      go_wp2
      go_ret
      exact ⟨rfl, rfl⟩
  · rw [(betw_no n a b).2 (by omega)]
    go_enter Tryz.func109, Tryz.ntmps109
    go_wp2
    go_ret
    exact ⟨rfl, rfl⟩
/-- is it so at each place? -/
def allB (n : Nat) (P : Nat → Bool) : Bool := (List.range n).all P
theorem allB_iff {n : Nat} {P : Nat → Bool} : allB n P = true ↔ ∀ i, i < n → P i = true := by simp [allB]
theorem allB_no {n : Nat} {P : Nat → Bool} {i : Nat} (hi : i < n) (h : P i = false) : allB n P = false := by
  rcases Bool.eq_false_or_eq_true (allB n P) with h1 | h1
  · have := allB_iff.1 h1 i hi; rw [h] at this; cases this
  · exact h1

set_option maxHeartbeats 1000000 in
theorem everyInt_any (fn : FuncId) (eg : ∀ args w, (callFunc fn args).run Tryz.prog w = .ok (.enter fn args) w) (caps : Array Value) (P : Nat → Bool) (a : Option Addr) (cap : Nat) (l : List Int) (w : World) (hl : l.length ≤ 9223372036854775807) (ha : intsAt w a l)
    (H : ∀ i w1, i < l.length → Below w.heap.size w w1 → Calls Tryz.prog fn (#[.int .i64 (i : Nat), .int .i64 (l.getD i 0)] ++ caps) w1 fun e w' => e = .returned (.bool (P i)) ∧ Below w1.heap.size w1 w') :
    Calls Tryz.prog 115 #[.slice a l.length cap, .func (.func fn) #[] caps] w fun e w' => e = .returned (.bool (allB l.length P)) ∧ Below w.heap.size w w' := by
  have HH : Hid (∀ i w1, i < l.length → Below w.heap.size w w1 → Calls Tryz.prog fn (#[.int .i64 (i : Nat), .int .i64 (l.getD i 0)] ++ caps) w1 fun e w' => e = .returned (.bool (P i)) ∧ Below w1.heap.size w1 w') := H
  clear H
  obtain ⟨n, hn⟩ : ∃ n, l.length = n := ⟨_, rfl⟩
  have HN : Hid (l.length = n) := hn
  rw [hn] at hl ⊢
  clear hn
  go_enter Tryz.func115, Tryz.ntmps115
  go_wp2
  go_loopw [9] (fun i wr => ∃ k : Nat, k ≤ n ∧ i = .int .i64 k ∧ Below w.heap.size w wr ∧ ∀ i, i < k → P i = true) (fun i _ => n - (intOf i).toNat)
  case atStart => exact ⟨0, Nat.zero_le _, rfl, Below.refl _ _, fun i hi => absurd hi (Nat.not_lt_zero i)⟩
  case round =>
    obtain ⟨k, hk, rfl, hnx, hall⟩ := hrel
    have HA : Hid (∀ i, i < k → P i = true) := hall
    clear hall
    by_cases hlt : k < n
    · obtain ⟨b, o, e, x1⟩ := ha k (by rw [HN.out]; exact hlt)
      subst e
      have q1 := cell_later hnx x1
      clear x1 ha
      have i1 : (0 : Int) ≤ (k : Int) := by omega
      have i2 : (k : Int) < (n : Int) := by omega
      have KK : Hid (Calls Tryz.prog fn (#[.int .i64 (k : Nat), .int .i64 (l.getD k 0)] ++ caps) wr fun e w' => e = .returned (.bool (P k)) ∧ Below wr.heap.size wr w') := HH.out k wr (by rw [HN.out]; exact hlt) hnx
      obtain ⟨z, hz⟩ : ∃ z, l.getD k 0 = z := ⟨_, rfl⟩
      rw [hz] at q1 KK
      clear hz
      have hsz := hnx.size
      cases hp : P k with
      | true =>
        rw [hp] at KK
        go_wp2_with (go_at_fn fn; refine KK.out.mono ?_; rintro e w1 ⟨rfl, hb1⟩)
        go_roundw
        case rel => exact ⟨k + 1, by omega, by go_num, hnx.trans (hb1.mono hsz), fun i hi => by
          rcases Nat.lt_succ_iff_lt_or_eq.1 hi with h | h
          · exact HA.out i h
          · rw [h]; exact hp⟩
        case measure => simp [intOf]; omega
      | false =>
        have HE : Hid (allB n P = false) := allB_no hlt hp
        rw [hp] at KK
        go_wp2_with (go_at_fn fn; refine KK.out.mono ?_; rintro e w1 ⟨rfl, hb1⟩)
        go_ret
        exact ⟨ret_bool HE.out.symm, hnx.trans (hb1.mono hsz)⟩
    · have HE : Hid (allB n P = true) := allB_iff.2 (fun i hi => HA.out i (by omega))
      go_wp2
      go_ret
      exact ⟨ret_bool HE.out.symm, hnx⟩
end Go.Proofs.YtbfbgdinhiglaaaGreat.pl

/- lists.Every at figures, headers and values, with whatever function it is handed. -/
namespace Go.Proofs.YtbfbgdinhiglaaaGreat.pl
open Go.ChangeShapes Go.WideShapes Go.ChangeAt Go.RowKit
open vl
set_option linter.unusedVariables false
set_option linter.unusedSimpArgs false
/-- a slice that begins at a has these headers of slices -/
def hdrsAt (w : World) (a : Option Addr) (l : List (Option Addr × Nat × Nat)) : Prop :=
  ∀ i, i < l.length → ∃ b off, a = some ⟨b, off, none⟩ ∧ w.cell? ⟨b, off + i, none⟩ = some (.slice (l.getD i (none, 0, 0)).1 (l.getD i (none, 0, 0)).2.1 (l.getD i (none, 0, 0)).2.2)
set_option maxHeartbeats 1000000 in
theorem everyAgg_any (fn : FuncId) (eg : ∀ args w, (callFunc fn args).run Tryz.prog w = .ok (.enter fn args) w) (caps : Array Value) (P : Nat → Bool) (a : Option Addr) (cap : Nat) (l : List (Int × Int)) (w : World) (hl : l.length ≤ 9223372036854775807) (ha : aggsAt w a l)
    (H : ∀ i w1, i < l.length → Below w.heap.size w w1 → Calls Tryz.prog fn (#[.int .i64 (i : Nat), .agg #[.int .i64 (l.getD i (0, 0)).1, .int .i64 (l.getD i (0, 0)).2]] ++ caps) w1 fun e w' => e = .returned (.bool (P i)) ∧ Below w1.heap.size w1 w') :
    Calls Tryz.prog 145 #[.slice a l.length cap, .func (.func fn) #[] caps] w fun e w' => e = .returned (.bool (allB l.length P)) ∧ Below w.heap.size w w' := by
  have HH : Hid (∀ i w1, i < l.length → Below w.heap.size w w1 → Calls Tryz.prog fn (#[.int .i64 (i : Nat), .agg #[.int .i64 (l.getD i (0, 0)).1, .int .i64 (l.getD i (0, 0)).2]] ++ caps) w1 fun e w' => e = .returned (.bool (P i)) ∧ Below w1.heap.size w1 w') := H
  clear H
  obtain ⟨n, hn⟩ : ∃ n, l.length = n := ⟨_, rfl⟩
  have HN : Hid (l.length = n) := hn
  rw [hn] at hl ⊢
  clear hn
  go_enter Tryz.func145, Tryz.ntmps145
  go_wp2
  go_loopw [9] (fun i wr => ∃ k : Nat, k ≤ n ∧ i = .int .i64 k ∧ Below w.heap.size w wr ∧ ∀ i, i < k → P i = true) (fun i _ => n - (intOf i).toNat)
  case atStart => exact ⟨0, Nat.zero_le _, rfl, Below.refl _ _, fun i hi => absurd hi (Nat.not_lt_zero i)⟩
  case round =>
    obtain ⟨k, hk, rfl, hnx, hall⟩ := hrel
    have HA : Hid (∀ i, i < k → P i = true) := hall
    clear hall
    by_cases hlt : k < n
    · obtain ⟨b, o, e, x1, x2⟩ := ha k (by rw [HN.out]; exact hlt)
      subst e
      have q1 := cell_later hnx x1
      have q2 := cell_later hnx x2
      clear x1 x2 ha
      have i1 : (0 : Int) ≤ (k : Int) := by omega
      have i2 : (k : Int) < (n : Int) := by omega
      have KK : Hid (∀ w1, Below wr.heap.size wr w1 → Calls Tryz.prog fn (#[.int .i64 (k : Nat), .agg #[.int .i64 (l.getD k (0, 0)).1, .int .i64 (l.getD k (0, 0)).2]] ++ caps) w1 fun e w' => e = .returned (.bool (P k)) ∧ Below w1.heap.size w1 w') := fun w1 hb => HH.out k w1 (by rw [HN.out]; exact hlt) (hnx.trans (hb.mono hnx.size))
      obtain ⟨⟨z1, z2⟩, hz⟩ : ∃ z, l.getD k (0, 0) = z := ⟨_, rfl⟩
      rw [hz] at q1 q2 KK
      dsimp only at q1 q2 KK
      clear hz
      have hsz := hnx.size
      cases hp : P k with
      | true =>
        rw [hp] at KK
        go_wp2_with (go_at_fn fn; refine (KK.out _ ((Below.refl _ _).alloc (Nat.le_refl _) _)).mono ?_; rintro e w1 ⟨rfl, hb1⟩; have hbx := (hnx.alloc hsz _).trans (hb1.mono (by simp; omega)))
        go_roundw
        case rel => exact ⟨k + 1, by omega, by go_num, hbx, fun i hi => by
          rcases Nat.lt_succ_iff_lt_or_eq.1 hi with h | h
          · exact HA.out i h
          · rw [h]; exact hp⟩
        case measure => simp [intOf]; omega
      | false =>
        have HE : Hid (allB n P = false) := allB_no hlt hp
        rw [hp] at KK
        go_wp2_with (go_at_fn fn; refine (KK.out _ ((Below.refl _ _).alloc (Nat.le_refl _) _)).mono ?_; rintro e w1 ⟨rfl, hb1⟩; have hbx := (hnx.alloc hsz _).trans (hb1.mono (by simp; omega)))
        go_ret
        exact ⟨ret_bool HE.out.symm, hbx⟩
    · have HE : Hid (allB n P = true) := allB_iff.2 (fun i hi => HA.out i (by omega))
      go_wp2
      go_ret
      exact ⟨ret_bool HE.out.symm, hnx⟩
set_option maxHeartbeats 1000000 in
theorem everyHdr_any (fn : FuncId) (eg : ∀ args w, (callFunc fn args).run Tryz.prog w = .ok (.enter fn args) w) (caps : Array Value) (P : Nat → Bool) (a : Option Addr) (cap : Nat) (l : List (Option Addr × Nat × Nat)) (w : World) (hl : l.length ≤ 9223372036854775807) (ha : hdrsAt w a l)
    (H : ∀ i w1, i < l.length → Below w.heap.size w w1 → Calls Tryz.prog fn (#[.int .i64 (i : Nat), .slice (l.getD i (none, 0, 0)).1 (l.getD i (none, 0, 0)).2.1 (l.getD i (none, 0, 0)).2.2] ++ caps) w1 fun e w' => e = .returned (.bool (P i)) ∧ Below w1.heap.size w1 w') :
    Calls Tryz.prog 113 #[.slice a l.length cap, .func (.func fn) #[] caps] w fun e w' => e = .returned (.bool (allB l.length P)) ∧ Below w.heap.size w w' := by
  have HH : Hid (∀ i w1, i < l.length → Below w.heap.size w w1 → Calls Tryz.prog fn (#[.int .i64 (i : Nat), .slice (l.getD i (none, 0, 0)).1 (l.getD i (none, 0, 0)).2.1 (l.getD i (none, 0, 0)).2.2] ++ caps) w1 fun e w' => e = .returned (.bool (P i)) ∧ Below w1.heap.size w1 w') := H
  clear H
  obtain ⟨n, hn⟩ : ∃ n, l.length = n := ⟨_, rfl⟩
  have HN : Hid (l.length = n) := hn
  rw [hn] at hl ⊢
  clear hn
  go_enter Tryz.func113, Tryz.ntmps113
  go_wp2
  go_loopw [9] (fun i wr => ∃ k : Nat, k ≤ n ∧ i = .int .i64 k ∧ Below w.heap.size w wr ∧ ∀ i, i < k → P i = true) (fun i _ => n - (intOf i).toNat)
  case atStart => exact ⟨0, Nat.zero_le _, rfl, Below.refl _ _, fun i hi => absurd hi (Nat.not_lt_zero i)⟩
  case round =>
    obtain ⟨k, hk, rfl, hnx, hall⟩ := hrel
    have HA : Hid (∀ i, i < k → P i = true) := hall
    clear hall
    by_cases hlt : k < n
    · obtain ⟨b, o, e, x1⟩ := ha k (by rw [HN.out]; exact hlt)
      subst e
      have q1 := cell_later hnx x1
      clear x1 ha
      have i1 : (0 : Int) ≤ (k : Int) := by omega
      have i2 : (k : Int) < (n : Int) := by omega
      have KK : Hid (Calls Tryz.prog fn (#[.int .i64 (k : Nat), .slice (l.getD k (none, 0, 0)).1 (l.getD k (none, 0, 0)).2.1 (l.getD k (none, 0, 0)).2.2] ++ caps) wr fun e w' => e = .returned (.bool (P k)) ∧ Below wr.heap.size wr w') := HH.out k wr (by rw [HN.out]; exact hlt) hnx
      obtain ⟨⟨z1, z2, z3⟩, hz⟩ : ∃ z, l.getD k (none, 0, 0) = z := ⟨_, rfl⟩
      rw [hz] at q1 KK
      dsimp only at q1 KK
      clear hz
      have hsz := hnx.size
      cases hp : P k with
      | true =>
        rw [hp] at KK
        go_wp2_with (go_at_fn fn; refine KK.out.mono ?_; rintro e w1 ⟨rfl, hb1⟩)
        go_roundw
        case rel => exact ⟨k + 1, by omega, by go_num, hnx.trans (hb1.mono hsz), fun i hi => by
          rcases Nat.lt_succ_iff_lt_or_eq.1 hi with h | h
          · exact HA.out i h
          · rw [h]; exact hp⟩
        case measure => simp [intOf]; omega
      | false =>
        have HE : Hid (allB n P = false) := allB_no hlt hp
        rw [hp] at KK
        go_wp2_with (go_at_fn fn; refine KK.out.mono ?_; rintro e w1 ⟨rfl, hb1⟩)
        go_ret
        exact ⟨ret_bool HE.out.symm, hnx.trans (hb1.mono hsz)⟩
    · have HE : Hid (allB n P = true) := allB_iff.2 (fun i hi => HA.out i (by omega))
      go_wp2
      go_ret
      exact ⟨ret_bool HE.out.symm, hnx⟩
set_option maxHeartbeats 1000000 in
theorem everyVal_any (fn : FuncId) (eg : ∀ args w, (callFunc fn args).run Tryz.prog w = .ok (.enter fn args) w) (caps : Array Value) (P : Nat → Bool) (a : Option Addr) (cap : Nat) (l : List Cel) (w : World) (hl : l.length ≤ 9223372036854775807) (ha : vl.rowAt w a l)
    (H : ∀ i w1, i < l.length → Below w.heap.size w w1 → Calls Tryz.prog fn (#[.int .i64 (i : Nat), (l.getD i default).val] ++ caps) w1 fun e w' => e = .returned (.bool (P i)) ∧ Below w1.heap.size w1 w') :
    Calls Tryz.prog 121 #[.slice a l.length cap, .func (.func fn) #[] caps] w fun e w' => e = .returned (.bool (allB l.length P)) ∧ Below w.heap.size w w' := by
  have HH : Hid (∀ i w1, i < l.length → Below w.heap.size w w1 → Calls Tryz.prog fn (#[.int .i64 (i : Nat), (l.getD i default).val] ++ caps) w1 fun e w' => e = .returned (.bool (P i)) ∧ Below w1.heap.size w1 w') := H
  clear H
  obtain ⟨n, hn⟩ : ∃ n, l.length = n := ⟨_, rfl⟩
  have HN : Hid (l.length = n) := hn
  rw [hn] at hl ⊢
  clear hn
  go_enter Tryz.func121, Tryz.ntmps121
  go_wp2
  go_loopw [9] (fun i wr => ∃ k : Nat, k ≤ n ∧ i = .int .i64 k ∧ Below w.heap.size w wr ∧ ∀ i, i < k → P i = true) (fun i _ => n - (intOf i).toNat)
  case atStart => exact ⟨0, Nat.zero_le _, rfl, Below.refl _ _, fun i hi => absurd hi (Nat.not_lt_zero i)⟩
  case round =>
    obtain ⟨k, hk, rfl, hnx, hall⟩ := hrel
    have HA : Hid (∀ i, i < k → P i = true) := hall
    clear hall
    by_cases hlt : k < n
    · obtain ⟨b, o, e, x1, x2, x3⟩ := ha k (by rw [HN.out]; exact hlt)
      subst e
      have q1 := cell_later hnx x1
      have q2 := cell_later hnx x2
      have q3 := cell_later hnx x3
      clear x1 x2 x3 ha
      have i1 : (0 : Int) ≤ (k : Int) := by omega
      have i2 : (k : Int) < (n : Int) := by omega
      have KK : Hid (∀ w1, Below wr.heap.size wr w1 → Calls Tryz.prog fn (#[.int .i64 (k : Nat), (l.getD k default).val] ++ caps) w1 fun e w' => e = .returned (.bool (P k)) ∧ Below w1.heap.size w1 w') := fun w1 hb => HH.out k w1 (by rw [HN.out]; exact hlt) (hnx.trans (hb.mono hnx.size))
      obtain ⟨⟨ka, na, sa⟩, hz⟩ : ∃ z, l.getD k default = z := ⟨_, rfl⟩
      rw [hz] at q1 q2 q3 KK
      dsimp only at q1 q2 q3 KK
      clear hz
      unfold Cel.val at KK
      dsimp only at KK
      have hsz := hnx.size
      cases hp : P k with
      | true =>
        rw [hp] at KK
        go_wp2_with (go_at_fn fn; refine (KK.out _ ((Below.refl _ _).alloc (Nat.le_refl _) _)).mono ?_; rintro e w1 ⟨rfl, hb1⟩; have hbx := (hnx.alloc hsz _).trans (hb1.mono (by simp; omega)))
        go_roundw
        case rel => exact ⟨k + 1, by omega, by go_num, hbx, fun i hi => by
          rcases Nat.lt_succ_iff_lt_or_eq.1 hi with h | h
          · exact HA.out i h
          · rw [h]; exact hp⟩
        case measure => simp [intOf]; omega
      | false =>
        have HE : Hid (allB n P = false) := allB_no hlt hp
        rw [hp] at KK
        go_wp2_with (go_at_fn fn; refine (KK.out _ ((Below.refl _ _).alloc (Nat.le_refl _) _)).mono ?_; rintro e w1 ⟨rfl, hb1⟩; have hbx := (hnx.alloc hsz _).trans (hb1.mono (by simp; omega)))
        go_ret
        exact ⟨ret_bool HE.out.symm, hbx⟩
    · have HE : Hid (allB n P = true) := allB_iff.2 (fun i hi => HA.out i (by omega))
      go_wp2
      go_ret
      exact ⟨ret_bool HE.out.symm, hnx⟩
end Go.Proofs.YtbfbgdinhiglaaaGreat.pl

/- kindsRight, rangesRight, countsRight: the first three rows of D1. -/
namespace Go.Proofs.YtbfbgdinhiglaaaGreat.pl
open Go.ChangeShapes Go.WideShapes Go.ChangeAt Go.RowKit
open vl
set_option linter.unusedVariables false
set_option linter.unusedSimpArgs false

theorem dec_bool {a : Bool} {q : Prop} [Decidable q] (h : a = true ↔ q) : a = decide q := by
  by_cases hq : q
  · rw [decide_eq_true hq]; exact h.2 hq
  · rw [decide_eq_false hq]
    cases a with
    | false => rfl
    | true => exact absurd (h.1 rfl) hq

theorem bcell {W w1 : World} (hb : Below W.heap.size W w1) : (∀ b o, b < W.heap.size → w1.cell? ⟨b, o, none⟩ = W.cell? ⟨b, o, none⟩) ∧ (∀ b o, b < W.heap.size → w1.frozen? ⟨b, o, none⟩ = W.frozen? ⟨b, o, none⟩) :=
  ⟨fun b o h => hb.cell (p := ⟨b, o, none⟩) h, fun b o h => hb.frozen (p := ⟨b, o, none⟩) h⟩
def figB (l : List (Int × Int)) : Bool := allB l.length (fun i => betw (l.getD i (0, 0)).1 1 4)
theorem getD_mem {α : Type} {l : List α} {d : α} {i : Nat} (h : i < l.length) : l.getD i d ∈ l := by simp [List.getD_eq_getElem?_getD, h]
theorem all_getD {α : Type} {l : List α} {d : α} {Q : α → Prop} : (∀ i, i < l.length → Q (l.getD i d)) ↔ ∀ x ∈ l, Q x := by
  constructor
  · intro h x hx
    obtain ⟨i, hi, rfl⟩ := List.getElem_of_mem hx
    have := h i hi
    simpa [List.getD_eq_getElem?_getD, hi] using this
  · intro h i hi
    exact h _ (getD_mem hi)
theorem figB_iff (l : List (Int × Int)) : figB l = true ↔ ∀ a ∈ l, 1 ≤ a.1 ∧ a.1 ≤ 4 := by
  unfold figB
  rw [allB_iff]
  simp only [betw_iff]
  exact all_getD (Q := fun a : Int × Int => 1 ≤ a.1 ∧ a.1 ≤ 4)

theorem fig1_any (i : Int) (f c : Int) (w : World) :
    Calls Tryz.prog 146 #[.int .i64 i, .agg #[.int .i64 f, .int .i64 c]] w fun e w' => e = .returned (.bool (betw f 1 4)) ∧ Below w.heap.size w w' := by
  go_enter Tryz.func146, Tryz.ntmps146
  go_wp2_with (go_at_call 109; refine (between_any _ _ _ _).mono ?_; rintro e w' ⟨rfl, hw⟩; subst hw)
  go_ret
  exact ⟨rfl, (Below.refl _ _).alloc (Nat.le_refl _) _⟩
theorem figures_any (a : Option Addr) (cap : Nat) (l : List (Int × Int)) (w : World) (hl : l.length ≤ 9223372036854775807) (ha : aggsAt w a l) :
    Calls Tryz.prog 110 #[.slice a l.length cap] w fun e w' => e = .returned (.bool (figB l)) ∧ Below w.heap.size w w' := by
  have H := everyAgg_any 146 (enters_of Tryz.func146 (by kernel_rfl) rfl) #[] (fun i => betw (l.getD i (0, 0)).1 1 4) a cap l w hl ha (fun i w1 _ _ => fig1_any i _ _ w1)
  obtain ⟨n, hn⟩ : ∃ n, l.length = n := ⟨_, rfl⟩
  have HB : Hid (figB l = allB n (fun i => betw (l.getD i (0, 0)).1 1 4)) := by show figB l = _; unfold figB; rw [hn]
  rw [hn] at H ⊢
  clear hn
  go_enter Tryz.func110, Tryz.ntmps110
  go_wp2_with (go_at_call 145; refine H.mono ?_; rintro e w1 ⟨rfl, hb1⟩)
  go_ret
  exact ⟨ret_bool HB.out.symm, hb1⟩

theorem kindsRight_any (p : Pln) (x : PA) (w : World) (hp : planAt w p x) (hw : wfPlan p) :
    Calls Tryz.prog 67 #[planV p x] w fun e w' => e = .returned (.bool (decide (kindsOk p))) ∧ Below w.heap.size w w' := by
  have HF : Hid (∀ w1, Below w.heap.size w w1 → Calls Tryz.prog 110 #[.slice x.a p.aggs.length x.ac] w1 fun e w' => e = .returned (.bool (figB p.aggs)) ∧ Below w1.heap.size w1 w') := fun w1 hb => figures_any x.a x.ac p.aggs w1 hw.a (aggsAt_below hp.a hb)
  have HK : Hid (decide (kindsOk p) = (betw p.kind 1 3 && betw p.mode 1 (if p.kind = 3 then 2 else 4) && (!p.grouped || figB p.aggs))) := by
    refine (dec_bool ?_).symm
    simp only [Bool.and_eq_true, Bool.or_eq_true, betw_iff, figB_iff, kindsOk, Bool.not_eq_true', and_assoc]
    cases p.grouped <;> simp
  obtain ⟨kind, mode, low, high, size, limit, left, right, lkeys, rkeys, grouped, group, aggs⟩ := p
  obtain ⟨l, lc, r, rc, lk, lkc, rk, rkc, g, gc, a, ac⟩ := x
  unfold planV
  dsimp only at HF HK ⊢
  clear hp hw
  obtain ⟨n6, h6⟩ : ∃ n, left.length = n := ⟨_, rfl⟩
  obtain ⟨n7, h7⟩ : ∃ n, right.length = n := ⟨_, rfl⟩
  obtain ⟨n8, h8⟩ : ∃ n, lkeys.length = n := ⟨_, rfl⟩
  obtain ⟨n9, h9⟩ : ∃ n, rkeys.length = n := ⟨_, rfl⟩
  obtain ⟨n11, h11⟩ : ∃ n, group.length = n := ⟨_, rfl⟩
  obtain ⟨n12, h12⟩ : ∃ n, aggs.length = n := ⟨_, rfl⟩
  rw [h12] at HF
  rw [h6, h7, h8, h9, h11, h12]
  clear h6 h7 h8 h9 h11 h12
  obtain ⟨fb, hfb⟩ : ∃ z, figB aggs = z := ⟨_, rfl⟩
  rw [hfb] at HF HK
  clear hfb
  by_cases hk : kind = 3
  · subst hk
    have HK2 : Hid (decide (kindsOk ⟨3, mode, low, high, size, limit, left, right, lkeys, rkeys, grouped, group, aggs⟩) = (true && betw mode 1 2 && (!grouped || fb))) := HK.out
    clear HK
    have b0 : betw 3 1 3 = true := by decide
    cases hb : betw mode 1 2 <;> rw [hb] at HK2 <;> cases grouped <;> cases fb
    all_goals
      go_enter Tryz.func67, Tryz.ntmps67
      go_wp2_with (first
        | (go_at_call 109; refine (between_any _ _ _ _).mono ?_; rintro e w' ⟨rfl, hw⟩; subst hw)
        | (go_at_call 110; refine (HF.out _ ((Below.refl _ _).alloc (Nat.le_refl _) _)).mono ?_; rintro e w1 ⟨rfl, hb1⟩))
      go_ret
      refine ⟨ret_bool HK2.out.symm, ?_⟩
      first
        | exact ((Below.refl _ _).alloc (Nat.le_refl _) _).trans (hb1.mono (by simp))
        | exact (Below.refl _ _).alloc (Nat.le_refl _) _
  · have hk3 : (kind == 3) = false := by simpa using hk
    rw [if_neg hk] at HK
    clear hk
    cases h0 : betw kind 1 3 <;> rw [h0] at HK <;> cases hb : betw mode 1 4 <;> rw [hb] at HK <;> cases grouped <;> cases fb
    all_goals
      go_enter Tryz.func67, Tryz.ntmps67
      go_wp2_with (first
        | (go_at_call 109; refine (between_any _ _ _ _).mono ?_; rintro e w' ⟨rfl, hw⟩; subst hw)
        | (go_at_call 110; refine (HF.out _ ((Below.refl _ _).alloc (Nat.le_refl _) _)).mono ?_; rintro e w1 ⟨rfl, hb1⟩))
      go_ret
      refine ⟨ret_bool HK.out.symm, ?_⟩
      first
        | exact ((Below.refl _ _).alloc (Nat.le_refl _) _).trans (hb1.mono (by simp))
        | exact (Below.refl _ _).alloc (Nat.le_refl _) _
end Go.Proofs.YtbfbgdinhiglaaaGreat.pl

/- rangesRight, countsRight: the second and third row of D1. -/
namespace Go.Proofs.YtbfbgdinhiglaaaGreat.pl
open Go.ChangeShapes Go.WideShapes Go.ChangeAt Go.RowKit
open vl
set_option linter.unusedVariables false
set_option linter.unusedSimpArgs false
def spanB (p : Pln) : Bool := if p.kind = 1 then tm.fitB p.low && tm.fitB p.high else decide (p.low = 0) && decide (p.high = 0)
def sizeB (p : Pln) : Bool := if p.kind = 2 then betw p.size 1 1099511627776 else decide (p.size = 0)
theorem ranges_iff (p : Pln) : decide (rangesOk p) = (spanB p && sizeB p && betw p.limit 1 64) := by
  refine (dec_bool ?_).symm
  unfold rangesOk spanB sizeB
  simp only [Bool.and_eq_true, betw_iff, and_assoc]
  refine and_congr ?_ (and_congr ?_ Iff.rfl)
  · split
    · simp only [Bool.and_eq_true, tm.fit_iff, fit]
    · simp
  · split
    · simp only [betw_iff]
    · simp
set_option maxHeartbeats 1000000 in
theorem spanRight_any (p : Pln) (x : PA) (w : World) :
    Calls Tryz.prog 111 #[planV p x] w fun e w' => e = .returned (.bool (spanB p)) ∧ Below w.heap.size w w' := by
  have HS : Hid (spanB p = if p.kind = 1 then tm.fitB p.low && tm.fitB p.high else decide (p.low = 0) && decide (p.high = 0)) := rfl
  obtain ⟨kind, mode, low, high, size, limit, left, right, lkeys, rkeys, grouped, group, aggs⟩ := p
  obtain ⟨l, lc, r, rc, lk, lkc, rk, rkc, g, gc, a, ac⟩ := x
  unfold planV
  dsimp only at HS ⊢
  by_cases hk : kind = 1
  · subst hk
    rw [if_pos rfl] at HS
    cases h0 : tm.fitB low <;> rw [h0] at HS
    all_goals
      go_enter Tryz.func111, Tryz.ntmps111
      go_wp2_with (go_at_call 147; refine (tm.fits_any _ _).mono ?_; rintro e w' ⟨rfl, hw⟩; subst hw)
      go_ret
      exact ⟨ret_bool (by rw [HS.out]; rfl), (Below.refl _ _).alloc (Nat.le_refl _) _⟩
  · have hk3 : (kind == 1) = false := by simpa using hk
    rw [if_neg hk] at HS
    clear hk
    by_cases h0 : low = 0
    · subst h0
      go_enter Tryz.func111, Tryz.ntmps111
      go_wp2
      go_ret
      exact ⟨ret_bool (by rw [HS.out]; exact Bool.eq_iff_iff.2 (by simp)), (Below.refl _ _).alloc (Nat.le_refl _) _⟩
    · have hb : (low == 0) = false := by simpa using h0
      rw [decide_eq_false h0] at HS
      clear h0
      go_enter Tryz.func111, Tryz.ntmps111
      go_wp2
      go_ret
      exact ⟨ret_bool (by rw [HS.out]; rfl), (Below.refl _ _).alloc (Nat.le_refl _) _⟩
theorem sizeRight_any (p : Pln) (x : PA) (w : World) :
    Calls Tryz.prog 112 #[planV p x] w fun e w' => e = .returned (.bool (sizeB p)) ∧ Below w.heap.size w w' := by
  have HS : Hid (sizeB p = if p.kind = 2 then betw p.size 1 1099511627776 else decide (p.size = 0)) := rfl
  obtain ⟨kind, mode, low, high, size, limit, left, right, lkeys, rkeys, grouped, group, aggs⟩ := p
  obtain ⟨l, lc, r, rc, lk, lkc, rk, rkc, g, gc, a, ac⟩ := x
  unfold planV
  dsimp only at HS ⊢
  by_cases hk : kind = 2
  · subst hk
    rw [if_pos rfl] at HS
    go_enter Tryz.func112, Tryz.ntmps112
    go_wp2_with (go_at_call 109; refine (between_any _ _ _ _).mono ?_; rintro e w' ⟨rfl, hw⟩; subst hw)
    go_ret
    exact ⟨ret_bool HS.out.symm, (Below.refl _ _).alloc (Nat.le_refl _) _⟩
  · have hk3 : (kind == 2) = false := by simpa using hk
    rw [if_neg hk] at HS
    clear hk
    go_enter Tryz.func112, Tryz.ntmps112
    go_wp2
    go_ret
    exact ⟨ret_bool (by rw [HS.out]; exact Bool.eq_iff_iff.2 (by simp)), (Below.refl _ _).alloc (Nat.le_refl _) _⟩
theorem rangesRight_any (p : Pln) (x : PA) (w : World) :
    Calls Tryz.prog 68 #[planV p x] w fun e w' => e = .returned (.bool (decide (rangesOk p))) ∧ Below w.heap.size w w' := by
  have K1 : Hid (∀ w1, Calls Tryz.prog 111 #[planV p x] w1 fun e w' => e = .returned (.bool (spanB p)) ∧ Below w1.heap.size w1 w') := fun w1 => spanRight_any p x w1
  have K2 : Hid (∀ w1, Calls Tryz.prog 112 #[planV p x] w1 fun e w' => e = .returned (.bool (sizeB p)) ∧ Below w1.heap.size w1 w') := fun w1 => sizeRight_any p x w1
  have HK : Hid (decide (rangesOk p) = (spanB p && sizeB p && betw p.limit 1 64)) := ranges_iff p
  obtain ⟨b1, h1⟩ : ∃ z, spanB p = z := ⟨_, rfl⟩
  obtain ⟨b2, h2⟩ : ∃ z, sizeB p = z := ⟨_, rfl⟩
  rw [h1] at K1 HK
  rw [h2] at K2 HK
  clear h1 h2
  obtain ⟨kind, mode, low, high, size, limit, left, right, lkeys, rkeys, grouped, group, aggs⟩ := p
  obtain ⟨l, lc, r, rc, lk, lkc, rk, rkc, g, gc, a, ac⟩ := x
  unfold planV at K1 K2 ⊢
  dsimp only at K1 K2 HK ⊢
  cases b1 <;> cases b2
  all_goals
    go_enter Tryz.func68, Tryz.ntmps68
    go_wp2_with (first
      | (go_at_call 111; refine (K1.out _).mono ?_; rintro e w1 ⟨rfl, hb1⟩; have hba := ((Below.refl _ _).alloc (Nat.le_refl _) _).trans (hb1.mono (by simp)); obtain ⟨hc1, hf1⟩ := bcell hb1)
      | (go_at_call 112; refine (K2.out _).mono ?_; rintro e w2 ⟨rfl, hb2⟩; have hbb := hba.trans (hb2.mono hba.size); obtain ⟨hc2, hf2⟩ := bcell hb2; have hz : w.heap.size < w1.heap.size := by have := hb1.size; simp at this; omega)
      | (go_at_call 109; refine (between_any _ _ _ _).mono ?_; rintro e w' ⟨rfl, hw⟩; subst hw))
    go_ret
    refine ⟨ret_bool (by rw [HK.out]; simp), ?_⟩
    first
      | exact hbb
      | exact hba
end Go.Proofs.YtbfbgdinhiglaaaGreat.pl

/- countsRight; slices.Concat of two lists of numbers, joined, typesRight. -/

namespace Go.Proofs.YtbfbgdinhiglaaaGreat.pl
open Go.ChangeShapes Go.WideShapes Go.ChangeAt Go.RowKit
open vl
set_option linter.unusedVariables false
set_option linter.unusedSimpArgs false

theorem cnt1_any (i : Int) (a : Option Addr) (n c : Nat) (w : World) :
    Calls Tryz.prog 114 #[.int .i64 i, .slice a n c] w fun e w' => e = .returned (.bool (betw n 1 4)) ∧ Below w.heap.size w w' := by
  go_enter Tryz.func114, Tryz.ntmps114
  go_wp2_with (go_at_call 109; refine (between_any _ _ _ _).mono ?_; rintro e w' ⟨rfl, hw⟩; subst hw)
  go_ret
  exact ⟨rfl, Below.refl _ _⟩
def sidesB (a b c d : Nat) : Bool := betw a 1 4 && (betw b 1 4 && (betw c 1 4 && betw d 1 4))
theorem every4 (g : Nat) (h0 h1 h2 h3 : Option Addr × Nat × Nat) (w : World)
    (e0 : w.cell? ⟨g, 0, none⟩ = some (.slice h0.1 h0.2.1 h0.2.2)) (e1 : w.cell? ⟨g, 1, none⟩ = some (.slice h1.1 h1.2.1 h1.2.2)) (e2 : w.cell? ⟨g, 2, none⟩ = some (.slice h2.1 h2.2.1 h2.2.2)) (e3 : w.cell? ⟨g, 3, none⟩ = some (.slice h3.1 h3.2.1 h3.2.2)) :
    Calls Tryz.prog 113 #[.slice (some ⟨g, 0, none⟩) 4 4, .func (.func 114) #[] #[]] w fun e w' => e = .returned (.bool (sidesB h0.2.1 h1.2.1 h2.2.1 h3.2.1)) ∧ Below w.heap.size w w' := by
  have H := everyHdr_any 114 (enters_of Tryz.func114 (by kernel_rfl) rfl) #[] (fun i => betw (([h0, h1, h2, h3] : List (Option Addr × Nat × Nat)).getD i (none, 0, 0)).2.1 1 4) (some ⟨g, 0, none⟩) 4 [h0, h1, h2, h3] w (by simp)
    (fun i hi => by
      match i, hi with
      | 0, _ => exact ⟨g, 0, rfl, e0⟩
      | 1, _ => exact ⟨g, 0, rfl, e1⟩
      | 2, _ => exact ⟨g, 0, rfl, e2⟩
      | 3, _ => exact ⟨g, 0, rfl, e3⟩) (fun i w1 _ _ => cnt1_any i _ _ _ w1)
  refine H.mono fun e w' ⟨he, hb⟩ => ⟨he.trans (ret_bool ?_), hb⟩
  simp [allB, List.range, List.range.loop, sidesB]
def groupB (p : Pln) : Bool := if p.grouped = true then betw p.aggs.length 1 4 && decide ((p.group.length : Int) ≤ 8 - p.aggs.length) else decide (p.group.length = 0) && decide (p.aggs.length = 0)
theorem many_iff (p : Pln) : decide (manyOk p) = (sidesB p.left.length p.right.length p.lkeys.length p.rkeys.length && groupB p) := by
  refine (dec_bool ?_).symm
  unfold manyOk sidesB groupB len14
  simp only [Bool.and_eq_true, betw_iff]
  refine and_congr ?_ ?_
  · omega
  · split
    · simp only [Bool.and_eq_true, betw_iff, decide_eq_true_eq]; omega
    · simp
set_option maxHeartbeats 4000000 in
theorem countsRight_any (p : Pln) (x : PA) (w : World) (hw : wfPlan p) :
    Calls Tryz.prog 69 #[planV p x] w fun e w' => e = .returned (.bool (decide (manyOk p))) ∧ Below w.heap.size w w' := by
  have HK : Hid (decide (manyOk p) = (sidesB p.left.length p.right.length p.lkeys.length p.rkeys.length && groupB p)) := many_iff p
  have HG : Hid (groupB p = if p.grouped = true then betw p.aggs.length 1 4 && decide ((p.group.length : Int) ≤ 8 - p.aggs.length) else decide (p.group.length = 0) && decide (p.aggs.length = 0)) := rfl
  have l11 := hw.g
  have l12 := hw.a
  rw [HG.out] at HK
  obtain ⟨kind, mode, low, high, size, limit, left, right, lkeys, rkeys, grouped, group, aggs⟩ := p
  obtain ⟨l, lc, r, rc, lk, lkc, rk, rkc, g, gc, a, ac⟩ := x
  unfold planV
  dsimp only at HK l11 l12 ⊢
  clear HG hw
  obtain ⟨n6, h6⟩ : ∃ n, left.length = n := ⟨_, rfl⟩
  obtain ⟨n7, h7⟩ : ∃ n, right.length = n := ⟨_, rfl⟩
  obtain ⟨n8, h8⟩ : ∃ n, lkeys.length = n := ⟨_, rfl⟩
  obtain ⟨n9, h9⟩ : ∃ n, rkeys.length = n := ⟨_, rfl⟩
  obtain ⟨n11, h11⟩ : ∃ n, group.length = n := ⟨_, rfl⟩
  obtain ⟨n12, h12⟩ : ∃ n, aggs.length = n := ⟨_, rfl⟩
  rw [h11] at l11
  rw [h12] at l12
  rw [h6, h7, h8, h9, h11, h12] at HK
  rw [h6, h7, h8, h9, h11, h12]
  clear h6 h7 h8 h9 h11 h12
  have HE : Hid (∀ (g0 : Nat) (w1 : World), w1.cell? ⟨g0, 0, none⟩ = some (.slice l n6 lc) → w1.cell? ⟨g0, 1, none⟩ = some (.slice r n7 rc) → w1.cell? ⟨g0, 2, none⟩ = some (.slice lk n8 lkc) → w1.cell? ⟨g0, 3, none⟩ = some (.slice rk n9 rkc) →
      Calls Tryz.prog 113 #[.slice (some ⟨g0, 0, none⟩) 4 4, .func (.func 114) #[] #[]] w1 fun e w' => e = .returned (.bool (sidesB n6 n7 n8 n9)) ∧ Below w1.heap.size w1 w') :=
    fun g0 w1 e0 e1 e2 e3 => every4 g0 (l, n6, lc) (r, n7, rc) (lk, n8, lkc) (rk, n9, rkc) w1 e0 e1 e2 e3
  obtain ⟨sb, hsb⟩ : ∃ z, sidesB n6 n7 n8 n9 = z := ⟨_, rfl⟩
  rw [hsb] at HE HK
  clear hsb
  cases sb
  · cases grouped
    all_goals
      go_enter Tryz.func69, Tryz.ntmps69
      go_wp2_with (first
        | (go_at_call 113; refine (HE.out _ _ (by go_simp) (by go_simp) (by go_simp) (by go_simp)).mono ?_; rintro e w1 ⟨rfl, hb1⟩; have hba := (((Below.refl _ _).alloc (Nat.le_refl _) _).alloc (by simp) _).trans (hb1.mono (by simp; omega)); obtain ⟨hc1, hf1⟩ := bcell hb1))
      go_ret
      exact ⟨ret_bool (by rw [HK.out]; simp), hba⟩
  · cases grouped
    · rw [if_neg (by decide)] at HK
      by_cases h0 : n11 = 0
      · subst h0
        go_enter Tryz.func69, Tryz.ntmps69
        go_wp2_with (first
          | (go_at_call 113; refine (HE.out _ _ (by go_simp) (by go_simp) (by go_simp) (by go_simp)).mono ?_; rintro e w1 ⟨rfl, hb1⟩; have hba := (((Below.refl _ _).alloc (Nat.le_refl _) _).alloc (by simp) _).trans (hb1.mono (by simp; omega)); obtain ⟨hc1, hf1⟩ := bcell hb1))
        go_ret
        exact ⟨ret_bool (by rw [HK.out]; exact Bool.eq_iff_iff.2 (by simp)), hba⟩
      · have hn0 : ((n11 : Int) == 0) = false := by simpa using h0
        rw [decide_eq_false h0] at HK
        clear h0
        go_enter Tryz.func69, Tryz.ntmps69
        go_wp2_with (first
          | (go_at_call 113; refine (HE.out _ _ (by go_simp) (by go_simp) (by go_simp) (by go_simp)).mono ?_; rintro e w1 ⟨rfl, hb1⟩; have hba := (((Below.refl _ _).alloc (Nat.le_refl _) _).alloc (by simp) _).trans (hb1.mono (by simp; omega)); obtain ⟨hc1, hf1⟩ := bcell hb1))
        go_ret
        exact ⟨ret_bool (by rw [HK.out]; rfl), hba⟩
    · rw [if_pos rfl] at HK
      obtain ⟨ab, hab⟩ : ∃ z, betw n12 1 4 = z := ⟨_, rfl⟩
      rw [hab] at HK
      cases ab
      · go_enter Tryz.func69, Tryz.ntmps69
        go_wp2_with (first
          | (go_at_call 113; refine (HE.out _ _ (by go_simp) (by go_simp) (by go_simp) (by go_simp)).mono ?_; rintro e w1 ⟨rfl, hb1⟩; have hba := (((Below.refl _ _).alloc (Nat.le_refl _) _).alloc (by simp) _).trans (hb1.mono (by simp; omega)); obtain ⟨hc1, hf1⟩ := bcell hb1)
          | (go_at_call 109; refine (between_any _ _ _ _).mono ?_; rintro e w' ⟨rfl, hw⟩; subst hw))
        go_ret
        exact ⟨ret_bool (by rw [HK.out]; rfl), hba⟩
      · have hn12 := (betw_iff _ _ _).1 hab
        obtain ⟨u1, u2⟩ := hn12
        go_enter Tryz.func69, Tryz.ntmps69
        go_wp2_with (first
          | (go_at_call 113; refine (HE.out _ _ (by go_simp) (by go_simp) (by go_simp) (by go_simp)).mono ?_; rintro e w1 ⟨rfl, hb1⟩; have hba := (((Below.refl _ _).alloc (Nat.le_refl _) _).alloc (by simp) _).trans (hb1.mono (by simp; omega)); obtain ⟨hc1, hf1⟩ := bcell hb1)
          | (go_at_call 109; refine (between_any _ _ _ _).mono ?_; rintro e w' ⟨rfl, hw⟩; subst hw))
        go_ret
        exact ⟨ret_bool (by rw [HK.out]; simp), hba⟩
end Go.Proofs.YtbfbgdinhiglaaaGreat.pl
