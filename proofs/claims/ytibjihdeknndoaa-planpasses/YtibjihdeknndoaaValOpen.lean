/- What is read of a value, and of a row, that came in. -/
import Derived.Test.YtibjihdeknndoaaValGen
import Derived.Lib.SmallJoins
import Derived.Deep.Slices
import Derived.Deep.Strs
namespace Go.Proofs.Ytibjihdeknndoaa.vl
open Go.ChangeShapes Go.WideShapes Go.ChangeAt Go.RowKit Go.Joins Go.Deep
set_option linter.unusedVariables false
set_option linter.unusedSimpArgs false

theorem laidOut : laidOutB Try.prog = true := by kernel_rfl
theorem own : ownKnob Try.prog.godebug = none := by kernel_rfl
theorem cellsInt : Try.prog.cellsOf 3 = 1 := by kernel_rfl
theorem cellsStr : Try.prog.cellsOf 9 = 1 := by kernel_rfl
theorem cellsV : Try.prog.cellsOf 60 = 3 := by kernel_rfl

section
variable {H : Type} {enc : TypeId × Value → H} {w : World} {base : Nat} {spare : Nat → Bool} {held : Bool}

set_option maxRecDepth 100000 in
theorem open_cel {x : Addr} {cs : List Value} {y : DataW H × List MemPlace} {fuel : Nat} (hc : w.cells? base x 3 = some cs) (ht : DataW.trod enc Try.prog w base spare held fuel 60 cs = some y) :
    ∃ (b off : Nat) (c : Cel), x = ⟨b, off, none⟩ ∧ w.cell? ⟨b, off, none⟩ = some (.int .i64 c.k) ∧ w.cell? ⟨b, off + 1, none⟩ = some (.int .i64 c.n) ∧ w.cell? ⟨b, off + 1 + 1, none⟩ = some (.string c.s) ∧ c.wf := by
  obtain ⟨_, hlen, hat⟩ := World.cells?_some hc
  obtain ⟨y0, y1, y2, n, _, _, h0, h1, h2⟩ := trod_struct3 Try.underlying60 ht
  match cs, hlen with
  | [a0, a1, a2], _ =>
    obtain ⟨k, e0, _, wk⟩ := DataW.trod_int Try.underlying3 h0
    obtain ⟨m, e1, _, wm⟩ := DataW.trod_int Try.underlying3 h1
    obtain ⟨s, e2, _, hs⟩ := DataW.trod_string Try.underlying9 h2
    simp [cellsInt] at e0
    simp [cellsInt] at e1
    simp [cellsStr] at e2
    subst e0 e1 e2
    obtain ⟨b, off, spot⟩ := x
    have g0 := hat 0 (by omega)
    have g1 := hat 1 (by omega)
    have g2 := hat 2 (by omega)
    have hspot : spot = none := by simpa [Addr.add] using World.cell?_spot g0
    subst hspot
    refine ⟨b, off, ⟨k, m, s⟩, rfl, ?_, ?_, ?_, bounds_i64 wm, hs⟩
    · simpa [Addr.add] using g0
    · simpa [Addr.add] using g1
    · simpa [Addr.add] using g2

theorem open_row {a : Option Addr} {len cap : Nat} {d : DataW H} {p : List MemPlace} (h : DataW.Trod enc Try.prog w base spare held 34 (.slice a len cap) d p) :
    ∃ r : List Cel, r.length = len ∧ rowAt w a r ∧ wfRow r ∧ len ≤ 9223372036854775807 := by
  obtain ⟨fuel, hf⟩ := h
  rcases open_slice Try.underlying34 hf with ⟨hcs, _⟩ | ⟨x, l, c, m, n, D, Pl, hcs, _, hl, hm, hmm, _, hel⟩
  · simp [Value.cells] at hcs
    obtain ⟨rfl, rfl, rfl⟩ := hcs
    exact ⟨[], rfl, fun i hi => absurd hi (Nat.not_lt_zero i), (fun c hc => by cases hc), by omega⟩
  · simp [Value.cells] at hcs
    obtain ⟨rfl, rfl, rfl⟩ := hcs
    have hle : len ≤ m := by rw [hmm]; split <;> omega
    rw [cellsV] at hel
    obtain ⟨f, hfam⟩ := choose_lt (α := Cel) (n := len) (p := fun i c => ∃ b off, x = ⟨b, off, none⟩ ∧ w.cell? ⟨b, off + i * 3, none⟩ = some (.int .i64 c.k) ∧ w.cell? ⟨b, off + i * 3 + 1, none⟩ = some (.int .i64 c.n) ∧ w.cell? ⟨b, off + i * 3 + 1 + 1, none⟩ = some (.string c.s) ∧ c.wf) (fun i hi => by
      obtain ⟨cs', h1, h2⟩ := hel i (by omega)
      obtain ⟨b, off, c, e, g0, g1, g2, hw⟩ := open_cel h1 h2
      -- the slice begins where its first element does
      obtain ⟨cs0, z1, z2⟩ := hel 0 (by omega)
      obtain ⟨b0, off0, c0, e0, _⟩ := open_cel z1 z2
      have ex : x = ⟨b0, off0, none⟩ := by simpa [Addr.add] using e0
      subst ex
      have ea : (⟨b0, off0, none⟩ : Addr).add (i * 3) = ⟨b0, off0 + i * 3, none⟩ := by unfold Addr.add; split <;> simp_all
      rw [ea] at e
      cases e
      exact ⟨c, b, off0, rfl, g0, g1, g2, hw⟩)
    refine ⟨(List.range len).map f, by simp, ?_, ?_, by unfold maxLen at hm; omega⟩
    · intro i hi
      have hi' : i < len := by simpa using hi
      obtain ⟨b, off, rfl, g0, g1, g2, _⟩ := hfam i hi'
      have e : ((List.range len).map f).getD i default = f i := by simp [List.getD_eq_getElem?_getD, hi']
      rw [e]
      exact ⟨b, off, rfl, g0, g1, g2⟩
    · intro c hc
      obtain ⟨i, hi, rfl⟩ := List.mem_map.1 hc
      obtain ⟨_, _, _, _, _, _, hw⟩ := hfam i (by simpa using hi)
      exact hw
end
end Go.Proofs.Ytibjihdeknndoaa.vl
