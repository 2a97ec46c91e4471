/- Groups that came in: what they are. -/
import Derived.Test.YtbfbgdinhiglaaaGreatGrpPure
import Derived.Test.YtbfbgdinhiglaaaGreatMgValB
import Derived.ChangeSame
import Derived.Lib.SmallJoins
namespace Go.Proofs.YtbfbgdinhiglaaaGreat.gr
open Go.ChangeShapes Go.WideShapes Go.ChangeAt Go.RowKit Go.Joins Go.Deep
open vl pl bt
set_option linter.unusedVariables false
set_option linter.unusedSimpArgs false
theorem cellsT : Tryz.prog.cellsOf 82 = 4 := by kernel_rfl
theorem cellsGr : Tryz.prog.cellsOf 53 = 3 := by kernel_rfl
theorem cellsBg : Tryz.prog.cellsOf 61 = 1 := by kernel_rfl
theorem cellsBs : Tryz.prog.cellsOf 51 = 1 := by kernel_rfl
theorem cellsRow : Tryz.prog.cellsOf 50 = 1 := by kernel_rfl
/-- what any tally is -/
def wfT (t : Tal) : Prop := t.1.s.size ≤ maxLen ∧ i64 t.1.n ∧ i64 t.2
section
variable {H : Type} {enc : TypeId × Value → H} {w : World} {base : Nat} {spare : Nat → Bool} {held : Bool}
theorem open_one {v : Value} {y : DataW H × List MemPlace} {fuel : Nat} (h : DataW.trod enc Tryz.prog w base spare held fuel 50 [v] = some y) :
    ∃ a len cap r, v = .slice a len cap ∧ List.length (α := Cel) r = len ∧ vl.rowAt w a r ∧ wfRow r ∧ len ≤ 9223372036854775807 := by
  rcases open_slice Tryz.underlying50 h with ⟨hcs, _⟩ | ⟨x, l, c, m, n, D, Pl, hcs, _⟩
  · simp at hcs
    subst hcs
    obtain ⟨r, h1, h2, h3, h4⟩ := open_row (a := none) (len := 0) (cap := 0) (d := y.1) (p := y.2) ⟨fuel, h⟩
    exact ⟨_, _, _, r, rfl, h1, h2, h3, h4⟩
  · simp at hcs
    subst hcs
    obtain ⟨r, h1, h2, h3, h4⟩ := open_row (a := some x) (len := l) (cap := c) (d := y.1) (p := y.2) ⟨fuel, h⟩
    exact ⟨_, _, _, r, rfl, h1, h2, h3, h4⟩
set_option maxRecDepth 100000 in
theorem open_tal {x : Addr} {cs : List Value} {y : DataW H × List MemPlace} {fuel : Nat} (hc : w.cells? base x 4 = some cs) (ht : DataW.trod enc Tryz.prog w base spare held fuel 82 cs = some y) :
    ∃ (b off : Nat) (t : Tal), x = ⟨b, off, none⟩ ∧ w.cell? ⟨b, off, none⟩ = some (.int .i64 t.1.k) ∧ w.cell? ⟨b, off + 1, none⟩ = some (.int .i64 t.1.n) ∧ w.cell? ⟨b, off + 2, none⟩ = some (.string t.1.s) ∧ w.cell? ⟨b, off + 3, none⟩ = some (.int .i64 t.2) ∧ wfT t := by
  obtain ⟨_, hlen, hat⟩ := World.cells?_some hc
  obtain ⟨y0, y1, n, _, _, h0, h1⟩ := trod_struct2 Tryz.underlying82 ht
  match cs, hlen with
  | [a0, a1, a2, a3], _ =>
    simp [cellsV] at h0
    obtain ⟨z0, z1, z2, n2, _, _, g0, g1, g2⟩ := trod_struct3 Tryz.underlying68 h0
    obtain ⟨k, e0, _, wk⟩ := DataW.trod_int Tryz.underlying3 g0
    obtain ⟨m, e1, _, wm⟩ := DataW.trod_int Tryz.underlying3 g1
    obtain ⟨s, e2, _, hs⟩ := DataW.trod_string Tryz.underlying9 g2
    obtain ⟨q, e3, _, wq⟩ := DataW.trod_int Tryz.underlying3 h1
    simp [cellsInt] at e0
    simp [cellsInt] at e1
    simp [cellsStr] at e2
    simp [cellsInt] at e3
    subst e0 e1 e2 e3
    obtain ⟨b, off, spot⟩ := x
    have g0 := hat 0 (by omega)
    have g1 := hat 1 (by omega)
    have g2 := hat 2 (by omega)
    have g3 := hat 3 (by omega)
    have hspot : spot = none := by simpa [Addr.add] using World.cell?_spot g0
    subst hspot
    refine ⟨b, off, (⟨k, m, s⟩, q), rfl, ?_, ?_, ?_, ?_, hs, bounds_i64 wm, bounds_i64 wq⟩
    · simpa [Addr.add] using g0
    · simpa [Addr.add] using g1
    · simpa [Addr.add] using g2
    · simpa [Addr.add] using g3
theorem add_at4 (b off j : Nat) : (⟨b, off, none⟩ : Addr).add j = ⟨b, off + j, none⟩ := by unfold Addr.add; split <;> simp_all
/-- a bag that came in -/
theorem open_bag {v : Value} {y : DataW H × List MemPlace} {fuel : Nat} (hf : DataW.trod enc Tryz.prog w base spare held fuel 61 [v] = some y) :
    ∃ (h : Option Addr × Nat × Nat) (l : List Tal), v = .slice h.1 h.2.1 h.2.2 ∧ h.2.1 = l.length ∧ bagAt w h.1 l ∧ l.length ≤ 9223372036854775807 ∧ ∀ t ∈ l, wfT t := by
  rcases open_slice Tryz.underlying61 hf with ⟨hcs, _⟩ | ⟨x, len, c, m, n, D, Pl, hcs, _, hl, hm, hmm, _, hel⟩
  · simp at hcs
    subst hcs
    exact ⟨(none, 0, 0), [], rfl, rfl, fun i hi => absurd hi (Nat.not_lt_zero i), by simp, fun t ht => by cases ht⟩
  · simp at hcs
    subst hcs
    have hle : len ≤ m := by rw [hmm]; split <;> omega
    rw [cellsT] at hel
    obtain ⟨f, hfam⟩ := choose_lt (α := Tal) (n := len) (p := fun i t => ∃ b off, x = ⟨b, off, none⟩ ∧ w.cell? ⟨b, off + i * 4, none⟩ = some (.int .i64 t.1.k) ∧ w.cell? ⟨b, off + i * 4 + 1, none⟩ = some (.int .i64 t.1.n) ∧ w.cell? ⟨b, off + i * 4 + 2, none⟩ = some (.string t.1.s) ∧ w.cell? ⟨b, off + i * 4 + 3, none⟩ = some (.int .i64 t.2) ∧ wfT t) (fun i hi => by
      obtain ⟨cs', h1, h2⟩ := hel i (by omega)
      obtain ⟨b, off, t, e, g0, g1, g2, g3, hw⟩ := open_tal h1 h2
      obtain ⟨cs0, z1, z2⟩ := hel 0 (by omega)
      obtain ⟨b0, off0, c0, e0, _⟩ := open_tal z1 z2
      have ex : x = ⟨b0, off0, none⟩ := by simpa [Addr.add] using e0
      subst ex
      rw [add_at4] at e
      cases e
      exact ⟨t, b, off0, rfl, g0, g1, g2, g3, hw⟩)
    refine ⟨(some x, len, c), (List.range len).map f, rfl, by simp, fun i hi => ?_, by unfold maxLen at hm; simp; omega, fun t ht => ?_⟩
    · have hi' : i < len := by simpa using hi
      obtain ⟨b, off, rfl, g0, g1, g2, g3, _⟩ := hfam i hi'
      have e : ((List.range len).map f).getD i default = f i := by simp [List.getD_eq_getElem?_getD, hi']
      rw [e]
      exact ⟨b, off, rfl, g0, g1, g2, g3⟩
    · obtain ⟨i, hi, rfl⟩ := List.mem_map.1 ht
      obtain ⟨_, _, _, _, _, _, _, hw⟩ := hfam i (List.mem_range.1 hi)
      exact hw
/-- the bags of a group that came in -/
theorem open_bags {v : Value} {y : DataW H × List MemPlace} {fuel : Nat} (hf : DataW.trod enc Tryz.prog w base spare held fuel 51 [v] = some y) :
    ∃ (ba : Option Addr) (bc : Nat) (hs : List (Option Addr × Nat × Nat)) (bags : List (List Tal)), v = .slice ba bags.length bc ∧ hdrsAt w ba hs ∧ hs.length = bags.length ∧ bags.length ≤ 9223372036854775807 ∧
      (∀ i, i < bags.length → (hs.getD i (none, 0, 0)).2.1 = (bags.getD i []).length ∧ bagAt w (hs.getD i (none, 0, 0)).1 (bags.getD i [])) ∧ ∀ l ∈ bags, l.length ≤ 9223372036854775807 ∧ ∀ t ∈ l, wfT t := by
  rcases open_slice Tryz.underlying51 hf with ⟨hcs, _⟩ | ⟨x, len, c, m, n, D, Pl, hcs, _, hl, hm, hmm, _, hel⟩
  · simp at hcs
    subst hcs
    exact ⟨none, 0, [], [], rfl, fun i hi => absurd hi (Nat.not_lt_zero i), rfl, by simp, fun i hi => absurd hi (Nat.not_lt_zero i), fun l hl => by cases hl⟩
  · simp at hcs
    subst hcs
    have hle : len ≤ m := by rw [hmm]; split <;> omega
    rw [cellsBg] at hel
    obtain ⟨f, hfam⟩ := choose_lt (α := (Option Addr × Nat × Nat) × List Tal) (n := len) (p := fun i q => ∃ b off, x = ⟨b, off, none⟩ ∧ w.cell? ⟨b, off + i, none⟩ = some (.slice q.1.1 q.1.2.1 q.1.2.2) ∧ q.1.2.1 = q.2.length ∧ bagAt w q.1.1 q.2 ∧ q.2.length ≤ 9223372036854775807 ∧ ∀ t ∈ q.2, wfT t) (fun i hi => by
      obtain ⟨cs', h1, h2⟩ := hel i (by omega)
      obtain ⟨_, hlen, hat⟩ := World.cells?_some h1
      match cs', hlen with
      | [u], _ =>
        obtain ⟨h, l, hv, r1, r2, r3, r4⟩ := open_bag h2
        have g0 := hat 0 (by omega)
        obtain ⟨b, off, spot⟩ := x
        obtain ⟨cs0, z1, _⟩ := hel 0 (by omega)
        obtain ⟨_, hl0, hat0⟩ := World.cells?_some z1
        obtain ⟨u0, hu0⟩ : ∃ u0, cs0 = [u0] := by
          match cs0, hl0 with
          | [u0], _ => exact ⟨u0, rfl⟩
        subst hu0
        have g00 : w.cell? ((Addr.mk b off spot).add (0 * 1) |>.add 0) = some u0 := hat0 0 (by omega)
        have hspot : spot = none := by simpa [Addr.add] using World.cell?_spot g00
        subst hspot
        rw [Nat.mul_one, add_at4] at g0
        rw [add_at4] at g0
        simp at g0
        subst hv
        exact ⟨(h, l), b, off, rfl, g0, r1, r2, r3, r4⟩)
    refine ⟨some x, c, (List.range len).map fun i => (f i).1, (List.range len).map fun i => (f i).2, by simp, fun i hi => ?_, by simp, by unfold maxLen at hm; simp; omega, fun i hi => ?_, fun l hl => ?_⟩
    · have hi' : i < len := by simpa using hi
      obtain ⟨b, off, rfl, g0, _⟩ := hfam i hi'
      refine ⟨b, off, rfl, ?_⟩
      have e : ((List.range len).map fun i => (f i).1).getD i (none, 0, 0) = (f i).1 := by simp [List.getD_eq_getElem?_getD, hi']
      rw [e]; exact g0
    · have hi' : i < len := by simpa using hi
      obtain ⟨_, _, _, _, r1, r2, _⟩ := hfam i hi'
      have e1 : ((List.range len).map fun i => (f i).1).getD i (none, 0, 0) = (f i).1 := by simp [List.getD_eq_getElem?_getD, hi']
      have e2 : ((List.range len).map fun i => (f i).2).getD i [] = (f i).2 := by simp [List.getD_eq_getElem?_getD, hi']
      rw [e1, e2]
      exact ⟨r1, r2⟩
    · obtain ⟨i, hi, rfl⟩ := List.mem_map.1 hl
      obtain ⟨_, _, _, _, _, _, r3, r4⟩ := hfam i (List.mem_range.1 hi)
      exact ⟨r3, r4⟩
set_option maxRecDepth 100000 in
theorem open_grp {x : Addr} {cs : List Value} {y : DataW H × List MemPlace} {fuel : Nat} (hc : w.cells? base x 3 = some cs) (ht : DataW.trod enc Tryz.prog w base spare held fuel 53 cs = some y) :
    ∃ (b off : Nat) (q : GX × Grp), x = ⟨b, off, none⟩ ∧ w.cell? ⟨b, off, none⟩ = some (.slice q.1.r q.2.row.length q.1.rc) ∧ w.cell? ⟨b, off + 1, none⟩ = some (.int .i64 q.2.n) ∧ w.cell? ⟨b, off + 2, none⟩ = some (.slice q.1.b q.2.bags.length q.1.bc) ∧ gAt w q.1 q.2 ∧ wfG q.2 := by
  obtain ⟨_, hlen, hat⟩ := World.cells?_some hc
  obtain ⟨y0, y1, y2, n, _, _, h0, h1, h2⟩ := trod_struct3 Tryz.underlying53 ht
  match cs, hlen with
  | [a0, a1, a2], _ =>
    simp [cellsRow] at h0
    simp [cellsBs] at h2
    obtain ⟨ra, rl, rc, r, e0, hl, hr, hw, hm⟩ := open_one h0
    obtain ⟨q, e1, _, wq⟩ := DataW.trod_int Tryz.underlying3 h1
    obtain ⟨ba, bc, hs, bags, e2, b1, b2, b3, b4, b5⟩ := open_bags h2
    simp [cellsInt] at e1
    subst e0 e1 e2 hl
    obtain ⟨b, off, spot⟩ := x
    have g0 := hat 0 (by omega)
    have g1 := hat 1 (by omega)
    have g2 := hat 2 (by omega)
    have hspot : spot = none := by simpa [Addr.add] using World.cell?_spot g0
    subst hspot
    refine ⟨b, off, (⟨ra, rc, ba, bc, hs⟩, ⟨r, q, bags⟩), rfl, ?_, ?_, ?_, ⟨hr, b1, b2, fun i hi => (b4 i hi).1, fun i hi => (b4 i hi).2⟩, ⟨hw, hm, bounds_i64 wq, b3, fun l hl => ⟨(b5 l hl).1, fun t ht => (b5 l hl).2 t ht⟩⟩⟩
    · simpa [Addr.add] using g0
    · simpa [Addr.add] using g1
    · simpa [Addr.add] using g2
/-- groups that came in -/
theorem open_groups {a : Option Addr} {len cap : Nat} {d : DataW H} {p : List MemPlace} (h : DataW.Trod enc Tryz.prog w base spare held 26 (.slice a len cap) d p) :
    ∃ (xs : List GX) (gs : List Grp), gs.length = len ∧ gsAt w a xs gs ∧ (∀ g ∈ gs, wfG g) ∧ len ≤ 9223372036854775807 := by
  obtain ⟨fuel, hf⟩ := h
  rcases open_slice Tryz.underlying26 hf with ⟨hcs, _⟩ | ⟨x, l, c, m, n, D, Pl, hcs, _, hl, hm, hmm, _, hel⟩
  · simp [Value.cells] at hcs
    obtain ⟨rfl, rfl, rfl⟩ := hcs
    exact ⟨[], [], rfl, ⟨rfl, fun i hi => absurd hi (Nat.not_lt_zero i), fun i hi => absurd hi (Nat.not_lt_zero i)⟩, (fun g hg => by cases hg), by omega⟩
  · simp [Value.cells] at hcs
    obtain ⟨rfl, rfl, rfl⟩ := hcs
    have hle : len ≤ m := by rw [hmm]; split <;> omega
    rw [cellsGr] at hel
    obtain ⟨f, hfam⟩ := choose_lt (α := GX × Grp) (n := len) (p := fun i q => ∃ b off, x = ⟨b, off, none⟩ ∧ w.cell? ⟨b, off + i * 3, none⟩ = some (.slice q.1.r q.2.row.length q.1.rc) ∧ w.cell? ⟨b, off + i * 3 + 1, none⟩ = some (.int .i64 q.2.n) ∧ w.cell? ⟨b, off + i * 3 + 2, none⟩ = some (.slice q.1.b q.2.bags.length q.1.bc) ∧ gAt w q.1 q.2 ∧ wfG q.2) (fun i hi => by
      obtain ⟨cs', h1, h2⟩ := hel i (by omega)
      obtain ⟨b, off, q, e, g0, g1, g2, g3, g4⟩ := open_grp h1 h2
      obtain ⟨cs0, z1, z2⟩ := hel 0 (by omega)
      obtain ⟨b0, off0, c0, e0, _⟩ := open_grp z1 z2
      have ex : x = ⟨b0, off0, none⟩ := by simpa [Addr.add] using e0
      subst ex
      rw [add_at4] at e
      cases e
      exact ⟨q, b, off0, rfl, g0, g1, g2, g3, g4⟩)
    refine ⟨(List.range len).map fun i => (f i).1, (List.range len).map fun i => (f i).2, by simp, ⟨by simp, fun i hi => ?_, fun i hi => ?_⟩, fun g hg => ?_, by unfold maxLen at hm; omega⟩
    · have hi' : i < len := by simpa using hi
      obtain ⟨b, off, rfl, g0, g1, g2, _⟩ := hfam i hi'
      have e1 : ((List.range len).map fun i => (f i).1).getD i default = (f i).1 := by simp [List.getD_eq_getElem?_getD, hi']
      have e2 : ((List.range len).map fun i => (f i).2).getD i default = (f i).2 := by simp [List.getD_eq_getElem?_getD, hi']
      rw [e1, e2]
      exact ⟨b, off, rfl, g0, g1, g2⟩
    · have hi' : i < len := by simpa using hi
      obtain ⟨_, _, _, _, _, _, g3, _⟩ := hfam i hi'
      have e1 : ((List.range len).map fun i => (f i).1).getD i default = (f i).1 := by simp [List.getD_eq_getElem?_getD, hi']
      have e2 : ((List.range len).map fun i => (f i).2).getD i default = (f i).2 := by simp [List.getD_eq_getElem?_getD, hi']
      rw [e1, e2]
      exact g3
    · obtain ⟨i, hi, rfl⟩ := List.mem_map.1 hg
      obtain ⟨_, _, _, _, _, _, _, g4⟩ := hfam i (List.mem_range.1 hi)
      exact g4
end
end Go.Proofs.YtbfbgdinhiglaaaGreat.gr
