/- What is read of entries, and of a buffer, that came in. -/
import Derived.Test.YtnfknkihiapgiaaBufUni
import Derived.Test.YtnfknkihiapgiaaFvB
import Derived.ChangeSame
import Derived.Lib.SmallJoins
namespace Go.Proofs.Ytnfknkihiapgiaa.bf
open Go.ChangeShapes Go.WideShapes Go.ChangeAt Go.RowKit Go.Joins Go.Deep
open vl
set_option linter.unusedVariables false
set_option linter.unusedSimpArgs false
theorem cellsE : Try.prog.cellsOf 28 = 5 := by kernel_rfl
theorem cellsRw : Try.prog.cellsOf 26 = 1 := by kernel_rfl
theorem cellsBl : Try.prog.cellsOf 4 = 1 := by kernel_rfl
theorem cellsSt : Try.prog.cellsOf 9 = 1 := by kernel_rfl
def intsAt (w : World) (a : Option Addr) (l : List Int) : Prop :=
  ∀ i, i < l.length → ∃ b off, a = some ⟨b, off, none⟩ ∧ w.cell? ⟨b, off + i, none⟩ = some (.int .i64 (l.getD i 0))
section
variable {H : Type} {enc : TypeId × Value → H} {w : World} {base : Nat} {spare : Nat → Bool} {held : Bool}
theorem open_one {v : Value} {y : DataW H × List MemPlace} {fuel : Nat} (h : DataW.trod enc Try.prog w base spare held fuel 26 [v] = some y) :
    ∃ a len cap r, v = .slice a len cap ∧ List.length (α := Cel) r = len ∧ vl.rowAt w a r ∧ wfRow r ∧ len ≤ 9223372036854775807 := by
  rcases open_slice Try.underlying26 h with ⟨hcs, _⟩ | ⟨x, l, c, m, n, D, Pl, hcs, _⟩
  · simp at hcs
    subst hcs
    obtain ⟨r, h1, h2, h3, h4⟩ := open_row (a := none) (len := 0) (cap := 0) (d := y.1) (p := y.2) ⟨fuel, h⟩
    exact ⟨_, _, _, r, rfl, h1, h2, h3, h4⟩
  · simp at hcs
    subst hcs
    obtain ⟨r, h1, h2, h3, h4⟩ := open_row (a := some x) (len := l) (cap := c) (d := y.1) (p := y.2) ⟨fuel, h⟩
    exact ⟨_, _, _, r, rfl, h1, h2, h3, h4⟩
/-- an entry that came in is one -/
structure inE (w : World) (e : EM) (x : Ent) : Prop where
  er : ER w e x
  wf : wfE x
  wp : wfP (plOf x)
set_option maxRecDepth 100000 in
set_option maxHeartbeats 1000000 in
theorem open_ecell {x : Addr} {cs : List Value} {y : DataW H × List MemPlace} {fuel : Nat} (hc : w.cells? base x 5 = some cs) (ht : DataW.trod enc Try.prog w base spare held fuel 28 cs = some y) :
    ∃ (b off : Nat) (c : EM × Ent), x = ⟨b, off, none⟩ ∧ w.cell? ⟨b, off, none⟩ = some (.string c.1.key) ∧ w.cell? ⟨b, off + 1, none⟩ = some (.int .i64 c.1.time) ∧ w.cell? ⟨b, off + 2, none⟩ = some (.int .i64 c.1.seq) ∧ w.cell? ⟨b, off + 3, none⟩ = some (hdV c.1.row) ∧ w.cell? ⟨b, off + 4, none⟩ = some (.bool c.1.met) ∧ inE w c.1 c.2 := by
  obtain ⟨_, hlen, hat⟩ := World.cells?_some hc
  obtain ⟨xs, n, _, _, _, hxl, hfs⟩ := DataW.trod_struct Try.underlying28 ht
  match xs, hxl with
  | [y0, y1, y2, y3, y4], _ =>
    have h0 := hfs 0 _ rfl
    have h1 := hfs 1 _ rfl
    have h2 := hfs 2 _ rfl
    have h3 := hfs 3 _ rfl
    have h4 := hfs 4 _ rfl
    match cs, hlen with
    | [a0, a1, a2, a3, a4], _ =>
      simp [cellsSt] at h0
      simp [cellsInt] at h1 h2
      simp [cellsRw] at h3
      simp [cellsBl] at h4
      obtain ⟨s0, e0, _, ws⟩ := DataW.trod_string Try.underlying9 h0
      obtain ⟨n1, e1, _, w1⟩ := DataW.trod_int Try.underlying3 h1
      obtain ⟨n2, e2, _, w2⟩ := DataW.trod_int Try.underlying3 h2
      obtain ⟨ra, rl, rc, r, e3, hl, hr, hw, hm⟩ := open_one h3
      obtain ⟨m4, e4, _⟩ := DataW.trod_bool Try.underlying4 h4
      simp only [List.cons.injEq, and_true] at e0 e1 e2 e4
      subst e0 e1 e2 e3 e4 hl
      obtain ⟨b, off, spot⟩ := x
      have g0 := hat 0 (by omega)
      have g1 := hat 1 (by omega)
      have g2 := hat 2 (by omega)
      have g3 := hat 3 (by omega)
      have g4 := hat 4 (by omega)
      have hspot : spot = none := by simpa [Addr.add] using World.cell?_spot g0
      subst hspot
      refine ⟨b, off, (⟨s0, n1, n2, (ra, r.length, rc), m4⟩, ⟨s0, n1, n2, r, m4⟩), rfl, ?_, ?_, ?_, ?_, ?_, ⟨⟨rfl, rfl, rfl, rfl, rfl, hr⟩, ⟨ws, hw, hm⟩, ?_⟩⟩
      · simpa [Addr.add] using g0
      · simpa [Addr.add] using g1
      · simpa [Addr.add] using g2
      · simpa [Addr.add, hdV] using g3
      · simpa [Addr.add] using g4
      · exact ⟨ws, bounds_i64 w1, bounds_i64 w2⟩
theorem open_ents {v : Value} {y : DataW H × List MemPlace} {fuel : Nat} (hf : DataW.trod enc Try.prog w base spare held fuel 22 [v] = some y) :
    ∃ (a : Option Addr) (cap : Nat) (es : List EM) (l : List Ent), v = .slice a es.length cap ∧ emsAt w a es ∧ es.length = l.length ∧ es.length ≤ 9223372036854775807 ∧ ∀ i, i < l.length → inE w (es.getD i default) (l.getD i default) := by
  rcases open_slice Try.underlying22 hf with ⟨hcs, _⟩ | ⟨x, len, cap, m, n, D, Pl, hcs, _, hl, hm, hmm, _, hel⟩
  · simp at hcs
    subst hcs
    exact ⟨none, 0, [], [], rfl, fun i hi => absurd hi (Nat.not_lt_zero i), rfl, by simp, fun i hi => absurd hi (Nat.not_lt_zero i)⟩
  · simp at hcs
    subst hcs
    have hle : len ≤ m := by rw [hmm]; split <;> omega
    rw [cellsE] at hel
    obtain ⟨f, hfam⟩ := choose_lt (α := EM × Ent) (n := len) (p := fun i c => ∃ b off, x = ⟨b, off, none⟩ ∧ w.cell? ⟨b, off + i * 5, none⟩ = some (.string c.1.key) ∧ w.cell? ⟨b, off + i * 5 + 1, none⟩ = some (.int .i64 c.1.time) ∧ w.cell? ⟨b, off + i * 5 + 2, none⟩ = some (.int .i64 c.1.seq) ∧ w.cell? ⟨b, off + i * 5 + 3, none⟩ = some (hdV c.1.row) ∧ w.cell? ⟨b, off + i * 5 + 4, none⟩ = some (.bool c.1.met) ∧ inE w c.1 c.2) (fun i hi => by
      obtain ⟨cs', h1, h2⟩ := hel i (by omega)
      obtain ⟨b, off, c, e, g0, g1, g2, g3, g4, hw⟩ := open_ecell h1 h2
      obtain ⟨cs0, z1, z2⟩ := hel 0 (by omega)
      obtain ⟨b0, off0, c0, e0, _⟩ := open_ecell z1 z2
      have ex : x = ⟨b0, off0, none⟩ := by simpa [Addr.add] using e0
      subst ex
      have ea : (⟨b0, off0, none⟩ : Addr).add (i * 5) = ⟨b0, off0 + i * 5, none⟩ := by unfold Addr.add; split <;> simp_all
      rw [ea] at e
      cases e
      exact ⟨c, b, off0, rfl, g0, g1, g2, g3, g4, hw⟩)
    refine ⟨some x, cap, (List.range len).map fun i => (f i).1, (List.range len).map fun i => (f i).2, by simp, ?_, by simp, by unfold maxLen at hm; simp; omega, ?_⟩
    · intro i hi
      have hi' : i < len := by simpa using hi
      obtain ⟨b, off, rfl, g0, g1, g2, g3, g4, _⟩ := hfam i hi'
      have e : ((List.range len).map fun i => (f i).1).getD i default = (f i).1 := by simp [List.getD_eq_getElem?_getD, hi']
      rw [e]
      exact ⟨b, off, rfl, g0, g1, g2, g3, g4⟩
    · intro i hi
      have hi' : i < len := by simpa using hi
      obtain ⟨_, _, _, _, _, _, _, _, hw⟩ := hfam i hi'
      have e1 : ((List.range len).map fun i => (f i).1).getD i default = (f i).1 := by simp [List.getD_eq_getElem?_getD, hi']
      have e2 : ((List.range len).map fun i => (f i).2).getD i default = (f i).2 := by simp [List.getD_eq_getElem?_getD, hi']
      rw [e1, e2]
      exact hw
set_option maxRecDepth 100000 in
theorem open_icell {x : Addr} {cs : List Value} {y : DataW H × List MemPlace} {fuel : Nat} (hc : w.cells? base x 1 = some cs) (ht : DataW.trod enc Try.prog w base spare held fuel 3 cs = some y) :
    ∃ (b off : Nat) (n : Int), x = ⟨b, off, none⟩ ∧ w.cell? ⟨b, off, none⟩ = some (.int .i64 n) := by
  obtain ⟨_, hlen, hat⟩ := World.cells?_some hc
  obtain ⟨n, e0, _, wn⟩ := DataW.trod_int Try.underlying3 ht
  subst e0
  obtain ⟨b, off, spot⟩ := x
  have g0 := hat 0 (by omega)
  have hspot : spot = none := by simpa [Addr.add] using World.cell?_spot g0
  subst hspot
  exact ⟨b, off, n, rfl, by simpa [Addr.add] using g0⟩
theorem open_ints {a : Option Addr} {len cap : Nat} {d : DataW H} {p : List MemPlace} (h : DataW.Trod enc Try.prog w base spare held 52 (.slice a len cap) d p) :
    ∃ l : List Int, l.length = len ∧ intsAt w a l ∧ len ≤ 9223372036854775807 := by
  obtain ⟨fuel, hf⟩ := h
  rcases open_slice Try.underlying52 hf with ⟨hcs, _⟩ | ⟨x, l, c, m, n, D, Pl, hcs, _, hl, hm, hmm, _, hel⟩
  · simp [Value.cells] at hcs
    obtain ⟨rfl, rfl, rfl⟩ := hcs
    exact ⟨[], rfl, fun i hi => absurd hi (Nat.not_lt_zero i), by omega⟩
  · simp [Value.cells] at hcs
    obtain ⟨rfl, rfl, rfl⟩ := hcs
    have hle : len ≤ m := by rw [hmm]; split <;> omega
    rw [cellsInt] at hel
    obtain ⟨f, hfam⟩ := choose_lt (α := Int) (n := len) (p := fun i c => ∃ b off, x = ⟨b, off, none⟩ ∧ w.cell? ⟨b, off + i, none⟩ = some (.int .i64 c)) (fun i hi => by
      obtain ⟨cs', h1, h2⟩ := hel i (by omega)
      obtain ⟨b, off, c, e, g0⟩ := open_icell h1 h2
      obtain ⟨cs0, z1, z2⟩ := hel 0 (by omega)
      obtain ⟨b0, off0, c0, e0, _⟩ := open_icell z1 z2
      have ex : x = ⟨b0, off0, none⟩ := by simpa [Addr.add] using e0
      subst ex
      have ea : (⟨b0, off0, none⟩ : Addr).add (i * 1) = ⟨b0, off0 + i, none⟩ := by unfold Addr.add; split <;> simp_all
      rw [ea] at e
      cases e
      exact ⟨c, b, off0, rfl, g0⟩)
    refine ⟨(List.range len).map f, by simp, ?_, by unfold maxLen at hm; omega⟩
    intro i hi
    have hi' : i < len := by simpa using hi
    obtain ⟨b, off, rfl, g0⟩ := hfam i hi'
    have e : ((List.range len).map f).getD i 0 = f i := by simp [List.getD_eq_getElem?_getD, hi']
    rw [e]
    exact ⟨b, off, rfl, g0⟩
end
end Go.Proofs.Ytnfknkihiapgiaa.bf
