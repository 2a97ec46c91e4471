/- What is read of a view, and of changes, that came in. -/
import Derived.Test.YtcpanmaahhiioaaGreatMgChgD
import Derived.Test.YtcpanmaahhiioaaGreatMgValB
import Derived.ChangeSame
namespace Go.Proofs.YtcpanmaahhiioaaGreat.ch
open Go.ChangeShapes Go.WideShapes Go.ChangeAt Go.RowKit Go.Joins Go.Deep
open vl
set_option linter.unusedVariables false
set_option linter.unusedSimpArgs false

theorem cellsC : Tryz.prog.cellsOf 45 = 2 := by kernel_rfl
theorem cellsG : Tryz.prog.cellsOf 48 = 2 := by kernel_rfl
theorem cellsR : Tryz.prog.cellsOf 43 = 1 := by kernel_rfl

section
variable {H : Type} {enc : TypeId × Value → H} {w : World} {base : Nat} {spare : Nat → Bool} {held : Bool}

theorem open_one {v : Value} {y : DataW H × List MemPlace} {fuel : Nat} (h : DataW.trod enc Tryz.prog w base spare held fuel 43 [v] = some y) :
    ∃ a len cap r, v = .slice a len cap ∧ List.length (α := Cel) r = len ∧ vl.rowAt w a r ∧ wfRow r ∧ len ≤ 9223372036854775807 := by
  rcases open_slice Tryz.underlying43 h with ⟨hcs, _⟩ | ⟨x, l, c, m, n, D, Pl, hcs, _⟩
  · simp at hcs
    subst hcs
    obtain ⟨r, h1, h2, h3, h4⟩ := open_row (a := none) (len := 0) (cap := 0) (d := y.1) (p := y.2) ⟨fuel, h⟩
    exact ⟨_, _, _, r, rfl, h1, h2, h3, h4⟩
  · simp at hcs
    subst hcs
    obtain ⟨r, h1, h2, h3, h4⟩ := open_row (a := some x) (len := l) (cap := c) (d := y.1) (p := y.2) ⟨fuel, h⟩
    exact ⟨_, _, _, r, rfl, h1, h2, h3, h4⟩

set_option maxRecDepth 100000 in
theorem open_cnt {x : Addr} {cs : List Value} {y : DataW H × List MemPlace} {fuel : Nat} (hc : w.cells? base x 2 = some cs) (ht : DataW.trod enc Tryz.prog w base spare held fuel 45 cs = some y) :
    ∃ (b off : Nat) (c : Cnt) (ra : Option Addr) (rc : Nat), x = ⟨b, off, none⟩ ∧ w.cell? ⟨b, off, none⟩ = some (.slice ra c.r.length rc) ∧ vl.rowAt w ra c.r ∧ w.cell? ⟨b, off + 1, none⟩ = some (.int .i64 c.n) ∧ wfRow c.r ∧ c.r.length ≤ 9223372036854775807 ∧ (-9223372036854775808 ≤ c.n ∧ c.n ≤ 9223372036854775807) := by
  obtain ⟨_, hlen, hat⟩ := World.cells?_some hc
  obtain ⟨y0, y1, n, _, _, h0, h1⟩ := trod_struct2 Tryz.underlying45 ht
  match cs, hlen with
  | [a0, a1], _ =>
    simp [cellsR] at h0
    obtain ⟨m, e1, _, wm⟩ := DataW.trod_int Tryz.underlying3 h1
    simp [cellsR, cellsInt] at e1
    subst e1
    obtain ⟨ra, rl, rc, r, e0, hl, hr, hw, hm⟩ := open_one h0
    subst e0 hl
    obtain ⟨b, off, spot⟩ := x
    have g0 := hat 0 (by omega)
    have g1 := hat 1 (by omega)
    have hspot : spot = none := by simpa [Addr.add] using World.cell?_spot g0
    subst hspot
    refine ⟨b, off, ⟨r, m⟩, ra, rc, rfl, ?_, hr, ?_, hw, hm, bounds_i64 wm⟩
    · simpa [Addr.add] using g0
    · simpa [Addr.add] using g1
set_option maxRecDepth 100000 in
theorem open_chg {x : Addr} {cs : List Value} {y : DataW H × List MemPlace} {fuel : Nat} (hc : w.cells? base x 2 = some cs) (ht : DataW.trod enc Tryz.prog w base spare held fuel 48 cs = some y) :
    ∃ (b off : Nat) (c : Chg) (ra : Option Addr) (rc : Nat), x = ⟨b, off, none⟩ ∧ w.cell? ⟨b, off, none⟩ = some (.int .i64 c.k) ∧ w.cell? ⟨b, off + 1, none⟩ = some (.slice ra c.r.length rc) ∧ vl.rowAt w ra c.r ∧ wfRow c.r ∧ c.r.length ≤ 9223372036854775807 ∧ (-9223372036854775808 ≤ c.k ∧ c.k ≤ 9223372036854775807) := by
  obtain ⟨_, hlen, hat⟩ := World.cells?_some hc
  obtain ⟨y0, y1, n, _, _, h0, h1⟩ := trod_struct2 Tryz.underlying48 ht
  match cs, hlen with
  | [a0, a1], _ =>
    obtain ⟨m, e1, _, wm⟩ := DataW.trod_int Tryz.underlying3 h0
    simp [cellsInt] at e1
    subst e1
    simp [cellsR, cellsInt] at h1
    obtain ⟨ra, rl, rc, r, e0, hl, hr, hw, hm⟩ := open_one h1
    subst e0 hl
    obtain ⟨b, off, spot⟩ := x
    have g0 := hat 0 (by omega)
    have g1 := hat 1 (by omega)
    have hspot : spot = none := by simpa [Addr.add] using World.cell?_spot g0
    subst hspot
    refine ⟨b, off, ⟨m, r⟩, ra, rc, rfl, ?_, ?_, hr, hw, hm, bounds_i64 wm⟩
    · simpa [Addr.add] using g0
    · simpa [Addr.add] using g1

theorem open_counts {a : Option Addr} {len cap : Nat} {d : DataW H} {p : List MemPlace} (h : DataW.Trod enc Tryz.prog w base spare held 27 (.slice a len cap) d p) :
    ∃ r : List Cnt, r.length = len ∧ viewAt w a r ∧ wfView r ∧ len ≤ 9223372036854775807 := by
  obtain ⟨fuel, hf⟩ := h
  rcases open_slice Tryz.underlying27 hf with ⟨hcs, _⟩ | ⟨x, l, c, m, n, D, Pl, hcs, _, hl, hm, hmm, _, hel⟩
  · simp [Value.cells] at hcs
    obtain ⟨rfl, rfl, rfl⟩ := hcs
    exact ⟨[], rfl, fun i hi => absurd hi (Nat.not_lt_zero i), (fun c hc => by cases hc), by omega⟩
  · simp [Value.cells] at hcs
    obtain ⟨rfl, rfl, rfl⟩ := hcs
    have hle : len ≤ m := by rw [hmm]; split <;> omega
    rw [cellsC] at hel
    obtain ⟨f, hfam⟩ := choose_lt (α := Cnt) (n := len) (p := fun i c => ∃ b off ra rc, x = ⟨b, off, none⟩ ∧ w.cell? ⟨b, off + i * 2, none⟩ = some (.slice ra c.r.length rc) ∧ vl.rowAt w ra c.r ∧ w.cell? ⟨b, off + i * 2 + 1, none⟩ = some (.int .i64 c.n) ∧ wfRow c.r ∧ c.r.length ≤ 9223372036854775807 ∧ (-9223372036854775808 ≤ c.n ∧ c.n ≤ 9223372036854775807)) (fun i hi => by
      obtain ⟨cs', h1, h2⟩ := hel i (by omega)
      obtain ⟨b, off, c, ra, rc, e, g0, g1, g2, hw⟩ := open_cnt h1 h2
      obtain ⟨cs0, z1, z2⟩ := hel 0 (by omega)
      obtain ⟨b0, off0, c0, ra0, rc0, e0, _⟩ := open_cnt z1 z2
      have ex : x = ⟨b0, off0, none⟩ := by simpa [Addr.add] using e0
      subst ex
      have ea : (⟨b0, off0, none⟩ : Addr).add (i * 2) = ⟨b0, off0 + i * 2, none⟩ := by unfold Addr.add; split <;> simp_all
      rw [ea] at e
      cases e
      exact ⟨c, b, off0, ra, rc, rfl, g0, g1, g2, hw⟩)
    refine ⟨(List.range len).map f, by simp, ?_, ?_, by unfold maxLen at hm; omega⟩
    · intro i hi
      have hi' : i < len := by simpa using hi
      obtain ⟨b, off, ra, rc, rfl, g0, g1, g2, _⟩ := hfam i hi'
      have e : ((List.range len).map f).getD i default = f i := by simp [List.getD_eq_getElem?_getD, hi']
      rw [e]
      exact ⟨b, off, ra, rc, rfl, g0, g1, g2⟩
    · intro c hc
      obtain ⟨i, hi, rfl⟩ := List.mem_map.1 hc
      obtain ⟨_, _, _, _, _, _, _, _, hw⟩ := hfam i (by simpa using hi)
      exact hw
theorem open_changes {a : Option Addr} {len cap : Nat} {d : DataW H} {p : List MemPlace} (h : DataW.Trod enc Tryz.prog w base spare held 42 (.slice a len cap) d p) :
    ∃ r : List Chg, r.length = len ∧ chgsAt w a r ∧ wfChgs r ∧ (len ≤ 9223372036854775807 ∧ len ≤ cap) := by
  obtain ⟨fuel, hf⟩ := h
  rcases open_slice Tryz.underlying42 hf with ⟨hcs, _⟩ | ⟨x, l, c, m, n, D, Pl, hcs, _, hl, hm, hmm, _, hel⟩
  · simp [Value.cells] at hcs
    obtain ⟨rfl, rfl, rfl⟩ := hcs
    exact ⟨[], rfl, fun i hi => absurd hi (Nat.not_lt_zero i), (fun c hc => by cases hc), by omega, by omega⟩
  · simp [Value.cells] at hcs
    obtain ⟨rfl, rfl, rfl⟩ := hcs
    have hle : len ≤ m := by rw [hmm]; split <;> omega
    rw [cellsG] at hel
    obtain ⟨f, hfam⟩ := choose_lt (α := Chg) (n := len) (p := fun i c => ∃ b off ra rc, x = ⟨b, off, none⟩ ∧ w.cell? ⟨b, off + i * 2, none⟩ = some (.int .i64 c.k) ∧ w.cell? ⟨b, off + i * 2 + 1, none⟩ = some (.slice ra c.r.length rc) ∧ vl.rowAt w ra c.r ∧ wfRow c.r ∧ c.r.length ≤ 9223372036854775807 ∧ (-9223372036854775808 ≤ c.k ∧ c.k ≤ 9223372036854775807)) (fun i hi => by
      obtain ⟨cs', h1, h2⟩ := hel i (by omega)
      obtain ⟨b, off, c, ra, rc, e, g0, g1, g2, hw⟩ := open_chg h1 h2
      obtain ⟨cs0, z1, z2⟩ := hel 0 (by omega)
      obtain ⟨b0, off0, c0, ra0, rc0, e0, _⟩ := open_chg z1 z2
      have ex : x = ⟨b0, off0, none⟩ := by simpa [Addr.add] using e0
      subst ex
      have ea : (⟨b0, off0, none⟩ : Addr).add (i * 2) = ⟨b0, off0 + i * 2, none⟩ := by unfold Addr.add; split <;> simp_all
      rw [ea] at e
      cases e
      exact ⟨c, b, off0, ra, rc, rfl, g0, g1, g2, hw⟩)
    refine ⟨(List.range len).map f, by simp, ?_, ?_, by unfold maxLen at hm; omega, hl⟩
    · intro i hi
      have hi' : i < len := by simpa using hi
      obtain ⟨b, off, ra, rc, rfl, g0, g1, g2, _⟩ := hfam i hi'
      have e : ((List.range len).map f).getD i default = f i := by simp [List.getD_eq_getElem?_getD, hi']
      rw [e]
      exact ⟨b, off, ra, rc, rfl, g0, g1, g2⟩
    · intro c hc
      obtain ⟨i, hi, rfl⟩ := List.mem_map.1 hc
      obtain ⟨_, _, _, _, _, _, _, _, hw⟩ := hfam i (by simpa using hi)
      exact hw
end
end Go.Proofs.YtcpanmaahhiioaaGreat.ch
