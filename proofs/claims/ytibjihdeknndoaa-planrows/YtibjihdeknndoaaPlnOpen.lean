/- What is read of a plan that came in. -/
import Derived.Test.YtibjihdeknndoaaPlnPure
import Derived.ChangeSame
import Derived.Lib.SmallJoins
namespace Go.Proofs.Ytibjihdeknndoaa.pl
open Go.ChangeShapes Go.WideShapes Go.ChangeAt Go.RowKit Go.Joins Go.Deep
open vl
set_option linter.unusedVariables false
set_option linter.unusedSimpArgs false

theorem cellsA : Try.prog.cellsOf 52 = 2 := by kernel_rfl
theorem cellsP : Try.prog.cellsOf 25 = 13 := by kernel_rfl
theorem cellsIs : Try.prog.cellsOf 22 = 1 := by kernel_rfl
theorem cellsAs : Try.prog.cellsOf 23 = 1 := by kernel_rfl
theorem cellsB : Try.prog.cellsOf 4 = 1 := by kernel_rfl

section
variable {H : Type} {enc : TypeId × Value → H} {w : World} {base : Nat} {spare : Nat → Bool} {held : Bool}

set_option maxRecDepth 100000 in
theorem open_icell {x : Addr} {cs : List Value} {y : DataW H × List MemPlace} {fuel : Nat} (hc : w.cells? base x 1 = some cs) (ht : DataW.trod enc Try.prog w base spare held fuel 3 cs = some y) :
    ∃ (b off : Nat) (n : Int), x = ⟨b, off, none⟩ ∧ w.cell? ⟨b, off, none⟩ = some (.int .i64 n) ∧ i64 n := by
  obtain ⟨_, hlen, hat⟩ := World.cells?_some hc
  obtain ⟨n, e0, _, wn⟩ := DataW.trod_int Try.underlying3 ht
  subst e0
  obtain ⟨b, off, spot⟩ := x
  have g0 := hat 0 (by omega)
  have hspot : spot = none := by simpa [Addr.add] using World.cell?_spot g0
  subst hspot
  exact ⟨b, off, n, rfl, by simpa [Addr.add] using g0, bounds_i64 wn⟩
set_option maxRecDepth 100000 in
theorem open_acell {x : Addr} {cs : List Value} {y : DataW H × List MemPlace} {fuel : Nat} (hc : w.cells? base x 2 = some cs) (ht : DataW.trod enc Try.prog w base spare held fuel 52 cs = some y) :
    ∃ (b off : Nat) (n m : Int), x = ⟨b, off, none⟩ ∧ w.cell? ⟨b, off, none⟩ = some (.int .i64 n) ∧ w.cell? ⟨b, off + 1, none⟩ = some (.int .i64 m) ∧ i64 n ∧ i64 m := by
  obtain ⟨_, hlen, hat⟩ := World.cells?_some hc
  obtain ⟨y0, y1, k, _, _, h0, h1⟩ := trod_struct2 Try.underlying52 ht
  match cs, hlen with
  | [a0, a1], _ =>
    obtain ⟨n, e0, _, wn⟩ := DataW.trod_int Try.underlying3 h0
    obtain ⟨m, e1, _, wm⟩ := DataW.trod_int Try.underlying3 h1
    simp [cellsInt] at e0
    simp [cellsInt] at e1
    subst e0 e1
    obtain ⟨b, off, spot⟩ := x
    have g0 := hat 0 (by omega)
    have g1 := hat 1 (by omega)
    have hspot : spot = none := by simpa [Addr.add] using World.cell?_spot g0
    subst hspot
    exact ⟨b, off, n, m, rfl, by simpa [Addr.add] using g0, by simpa [Addr.add] using g1, bounds_i64 wn, bounds_i64 wm⟩

theorem open_ints {v : Value} {y : DataW H × List MemPlace} {fuel : Nat} (hf : DataW.trod enc Try.prog w base spare held fuel 22 [v] = some y) :
    ∃ a cap l, v = .slice a (List.length (α := Int) l) cap ∧ intsAt w a l ∧ l.length ≤ 9223372036854775807 ∧ ∀ n ∈ l, i64 n := by
  rcases open_slice Try.underlying22 hf with ⟨hcs, _⟩ | ⟨x, len, cap, m, n, D, Pl, hcs, _, hl, hm, hmm, _, hel⟩
  · simp at hcs
    subst hcs
    exact ⟨none, 0, [], rfl, fun i hi => absurd hi (Nat.not_lt_zero i), by simp, fun n hn => by cases hn⟩
  · simp at hcs
    subst hcs
    have hle : len ≤ m := by rw [hmm]; split <;> omega
    rw [cellsInt] at hel
    obtain ⟨f, hfam⟩ := choose_lt (α := Int) (n := len) (p := fun i c => ∃ b off, x = ⟨b, off, none⟩ ∧ w.cell? ⟨b, off + i, none⟩ = some (.int .i64 c) ∧ i64 c) (fun i hi => by
      obtain ⟨cs', h1, h2⟩ := hel i (by omega)
      obtain ⟨b, off, c, e, g0, hw⟩ := open_icell h1 h2
      obtain ⟨cs0, z1, z2⟩ := hel 0 (by omega)
      obtain ⟨b0, off0, c0, e0, _⟩ := open_icell z1 z2
      have ex : x = ⟨b0, off0, none⟩ := by simpa [Addr.add] using e0
      subst ex
      have ea : (⟨b0, off0, none⟩ : Addr).add (i * 1) = ⟨b0, off0 + i, none⟩ := by unfold Addr.add; split <;> simp_all
      rw [ea] at e
      cases e
      exact ⟨c, b, off0, rfl, g0, hw⟩)
    refine ⟨some x, cap, (List.range len).map f, by simp, ?_, by unfold maxLen at hm; simp; omega, ?_⟩
    · intro i hi
      have hi' : i < len := by simpa using hi
      obtain ⟨b, off, rfl, g0, _⟩ := hfam i hi'
      have e : ((List.range len).map f).getD i 0 = f i := by simp [List.getD_eq_getElem?_getD, hi']
      rw [e]
      exact ⟨b, off, rfl, g0⟩
    · intro c hc
      obtain ⟨i, hi, rfl⟩ := List.mem_map.1 hc
      obtain ⟨_, _, _, _, hw⟩ := hfam i (by simpa using hi)
      exact hw
theorem open_aggs {v : Value} {y : DataW H × List MemPlace} {fuel : Nat} (hf : DataW.trod enc Try.prog w base spare held fuel 23 [v] = some y) :
    ∃ a cap l, v = .slice a (List.length (α := Int × Int) l) cap ∧ aggsAt w a l ∧ l.length ≤ 9223372036854775807 ∧ ∀ n ∈ l, i64 n.1 ∧ i64 n.2 := by
  rcases open_slice Try.underlying23 hf with ⟨hcs, _⟩ | ⟨x, len, cap, m, n, D, Pl, hcs, _, hl, hm, hmm, _, hel⟩
  · simp at hcs
    subst hcs
    exact ⟨none, 0, [], rfl, fun i hi => absurd hi (Nat.not_lt_zero i), by simp, fun n hn => by cases hn⟩
  · simp at hcs
    subst hcs
    have hle : len ≤ m := by rw [hmm]; split <;> omega
    rw [cellsA] at hel
    obtain ⟨f, hfam⟩ := choose_lt (α := Int × Int) (n := len) (p := fun i c => ∃ b off, x = ⟨b, off, none⟩ ∧ w.cell? ⟨b, off + i * 2, none⟩ = some (.int .i64 c.1) ∧ w.cell? ⟨b, off + i * 2 + 1, none⟩ = some (.int .i64 c.2) ∧ i64 c.1 ∧ i64 c.2) (fun i hi => by
      obtain ⟨cs', h1, h2⟩ := hel i (by omega)
      obtain ⟨b, off, c, d, e, g0, g1, hw⟩ := open_acell h1 h2
      obtain ⟨cs0, z1, z2⟩ := hel 0 (by omega)
      obtain ⟨b0, off0, c0, d0, e0, _⟩ := open_acell z1 z2
      have ex : x = ⟨b0, off0, none⟩ := by simpa [Addr.add] using e0
      subst ex
      have ea : (⟨b0, off0, none⟩ : Addr).add (i * 2) = ⟨b0, off0 + i * 2, none⟩ := by unfold Addr.add; split <;> simp_all
      rw [ea] at e
      cases e
      exact ⟨(c, d), b, off0, rfl, g0, g1, hw⟩)
    refine ⟨some x, cap, (List.range len).map f, by simp, ?_, by unfold maxLen at hm; simp; omega, ?_⟩
    · intro i hi
      have hi' : i < len := by simpa using hi
      obtain ⟨b, off, rfl, g0, g1, _⟩ := hfam i hi'
      have e : ((List.range len).map f).getD i (0, 0) = f i := by simp [List.getD_eq_getElem?_getD, hi']
      rw [e]
      exact ⟨b, off, rfl, g0, g1⟩
    · intro c hc
      obtain ⟨i, hi, rfl⟩ := List.mem_map.1 hc
      obtain ⟨_, _, _, _, _, hw⟩ := hfam i (by simpa using hi)
      exact hw

theorem array13 {cs : Array Value} (h : cs.size = 13) : ∃ a b c d e f g h i j k l m, cs = #[a, b, c, d, e, f, g, h, i, j, k, l, m] := by
  obtain ⟨l⟩ := cs
  match l, h with
  | [a, b, c, d, e, f, g, h, i, j, k, l, m], _ => exact ⟨a, b, c, d, e, f, g, h, i, j, k, l, m, rfl⟩

set_option maxRecDepth 100000 in
set_option maxHeartbeats 1000000 in
theorem open_plan {r : Reach} {b0 : Nat} {v : Value} {d : DataW H} {pl : List MemPlace} (hv : Value.okWide Try.prog w r b0 25 v) (h : DataW.Trod enc Try.prog w base spare held 25 v d pl) :
    ∃ p x, v = planV p x ∧ planAt w p x ∧ wfPlan p := by
  obtain ⟨cs, rfl, hsz⟩ := okWide_struct Try.underlying25 hv
  obtain ⟨c0, c1, c2, c3, c4, c5, c6, c7, c8, c9, c10, c11, c12, rfl⟩ := array13 (hsz.trans cellsP)
  obtain ⟨fuel, hf⟩ := h
  obtain ⟨xs, n, _, _, _, hlen, hat⟩ := DataW.trod_struct Try.underlying25 hf
  match xs, hlen with
  | [y0, y1, y2, y3, y4, y5, y6, y7, y8, y9, y10, y11, y12], _ =>
    have h0 := hat 0 _ rfl
    have h1 := hat 1 _ rfl
    have h2 := hat 2 _ rfl
    have h3 := hat 3 _ rfl
    have h4 := hat 4 _ rfl
    have h5 := hat 5 _ rfl
    have h6 := hat 6 _ rfl
    have h7 := hat 7 _ rfl
    have h8 := hat 8 _ rfl
    have h9 := hat 9 _ rfl
    have h10 := hat 10 _ rfl
    have h11 := hat 11 _ rfl
    have h12 := hat 12 _ rfl
    simp [Value.cells, cellsInt] at h0 h1 h2 h3 h4 h5
    simp [Value.cells, cellsIs] at h6 h7 h8 h9 h11
    simp [Value.cells, cellsB] at h10
    simp [Value.cells, cellsAs] at h12
    obtain ⟨n0, e0, _, w0⟩ := DataW.trod_int Try.underlying3 h0
    obtain ⟨n1, e1, _, w1⟩ := DataW.trod_int Try.underlying3 h1
    obtain ⟨n2, e2, _, w2⟩ := DataW.trod_int Try.underlying3 h2
    obtain ⟨n3, e3, _, w3⟩ := DataW.trod_int Try.underlying3 h3
    obtain ⟨n4, e4, _, w4⟩ := DataW.trod_int Try.underlying3 h4
    obtain ⟨n5, e5, _, w5⟩ := DataW.trod_int Try.underlying3 h5
    obtain ⟨a6, k6, l6, e6, i6, m6, j6⟩ := open_ints h6
    obtain ⟨a7, k7, l7, e7, i7, m7, j7⟩ := open_ints h7
    obtain ⟨a8, k8, l8, e8, i8, m8, j8⟩ := open_ints h8
    obtain ⟨a9, k9, l9, e9, i9, m9, j9⟩ := open_ints h9
    obtain ⟨n10, e10, _⟩ := DataW.trod_bool Try.underlying4 h10
    obtain ⟨a11, k11, l11, e11, i11, m11, j11⟩ := open_ints h11
    obtain ⟨a12, k12, l12, e12, i12, m12, j12⟩ := open_aggs h12
    simp only [List.cons.injEq, and_true] at e0 e1 e2 e3 e4 e5 e10
    subst e0 e1 e2 e3 e4 e5 e6 e7 e8 e9 e10 e11 e12
    exact ⟨⟨n0, n1, n2, n3, n4, n5, l6, l7, l8, l9, n10, l11, l12⟩, ⟨a6, k6, a7, k7, a8, k8, a9, k9, a11, k11, a12, k12⟩, rfl, ⟨i6, i7, i8, i9, i11, i12⟩, ⟨bounds_i64 w2, bounds_i64 w3, m6, m7, m8, m9, m11, m12⟩⟩
end
end Go.Proofs.Ytibjihdeknndoaa.pl
