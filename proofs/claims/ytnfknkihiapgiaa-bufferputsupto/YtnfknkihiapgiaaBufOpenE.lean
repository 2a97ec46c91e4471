/- An entry that came in by itself: what it is, and how much it holds. -/
import Derived.Test.YtnfknkihiapgiaaFrA
namespace Go.Proofs.Ytnfknkihiapgiaa.bf
open Go.ChangeShapes Go.WideShapes Go.ChangeAt Go.RowKit Go.Joins Go.Deep
open vl
set_option linter.unusedVariables false
set_option linter.unusedSimpArgs false
theorem array5 {a : Array Value} (h : a.size = 5) : ∃ c0 c1 c2 c3 c4, a = #[c0, c1, c2, c3, c4] := by
  obtain ⟨l⟩ := a
  match l, h with
  | [c0, c1, c2, c3, c4], _ => exact ⟨c0, c1, c2, c3, c4, rfl⟩
section
variable {H : Type} {enc : TypeId × Value → H} {w : World} {base : Nat} {spare : Nat → Bool} {held : Bool}
set_option maxRecDepth 100000 in
set_option maxHeartbeats 1000000 in
theorem open_entry {r : Reach} {b0 : Nat} {v : Value} {d : DataW H} {p : List MemPlace} (hv : Value.okWide Try.prog w r b0 28 v) (h : DataW.Trod enc Try.prog w base spare held 28 v d p) :
    ∃ (e : EM) (y : Ent), v = e.val ∧ inE w e y ∧ y.key.size ≤ Rows.uptoBulk d ∧ y.row.length ≤ Rows.uptoBulk d := by
  obtain ⟨cs, rfl, hsz⟩ := okWide_struct Try.underlying28 hv
  obtain ⟨a0, a1, a2, a3, a4, rfl⟩ := array5 (hsz.trans cellsE)
  obtain ⟨fuel, hf⟩ := h
  obtain ⟨xs, n, _, hy, _, hxl, hfs⟩ := DataW.trod_struct Try.underlying28 hf
  match xs, hxl with
  | [y0, y1, y2, y3, y4], _ =>
    have h0 := hfs 0 _ rfl
    have h1 := hfs 1 _ rfl
    have h2 := hfs 2 _ rfl
    have h3 := hfs 3 _ rfl
    have h4 := hfs 4 _ rfl
    simp [Value.cells, cellsSt] at h0
    simp [Value.cells, cellsInt] at h1 h2
    simp [Value.cells, cellsRw] at h3
    simp [Value.cells, cellsBl] at h4
    obtain ⟨s0, e0, ey, ws⟩ := DataW.trod_string Try.underlying9 h0
    obtain ⟨n1, e1, _, w1⟩ := DataW.trod_int Try.underlying3 h1
    obtain ⟨n2, e2, _, w2⟩ := DataW.trod_int Try.underlying3 h2
    obtain ⟨ra, rl, rc, r, e3, hl, hr, hw, hm⟩ := open_one h3
    obtain ⟨m4, e4, _⟩ := DataW.trod_bool Try.underlying4 h4
    simp only [List.cons.injEq, and_true] at e0 e1 e2 e4
    subst e0 e1 e2 e3 e4 hl
    have b0 : Rows.uptoBulk y0.1 = s0.data.toList.length + 1 := by rw [ey]; simp [Rows.uptoBulk]
    have b3 := bk_slice Try.underlying26 h3
    have e : s0.data.toList.length = s0.size := by rw [Array.length_toList]; rfl
    simp only [Prod.mk.injEq] at hy
    refine ⟨⟨s0, n1, n2, (ra, r.length, rc), m4⟩, ⟨s0, n1, n2, r, m4⟩, rfl, ⟨⟨rfl, rfl, rfl, rfl, rfl, hr⟩, ⟨ws, hw, hm⟩, ⟨ws, bounds_i64 w1, bounds_i64 w2⟩⟩, ?_, ?_⟩
    · rw [hy.1]
      simp only [List.map_cons, List.map_nil, Rows.uptoBulk, Rows.uptoBulkAll]
      omega
    · rw [hy.1]
      simp only [List.map_cons, List.map_nil, Rows.uptoBulk, Rows.uptoBulkAll]
      omega
end
end Go.Proofs.Ytnfknkihiapgiaa.bf
