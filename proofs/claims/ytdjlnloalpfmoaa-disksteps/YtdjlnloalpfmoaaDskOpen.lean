/- What is read of a disk, and of cuts, that came in. -/
import Derived.Test.YtdjlnloalpfmoaaDskOps
import Derived.ChangeSame
import Derived.Lib.SmallJoins
import Derived.Deep.Slices
import Derived.Deep.Strs
namespace Go.Proofs.Ytdjlnloalpfmoaa.dk
open Go.ChangeShapes Go.WideShapes Go.ChangeAt Go.RowKit Go.Joins Go.Deep
set_option linter.unusedVariables false
set_option linter.unusedSimpArgs false

theorem laidOut : laidOutB Try.prog = true := by kernel_rfl
theorem own : ownKnob Try.prog.godebug = none := by kernel_rfl
theorem cellsInt : Try.prog.cellsOf 3 = 1 := by kernel_rfl
theorem cellsStr : Try.prog.cellsOf 9 = 1 := by kernel_rfl
theorem cellsB : Try.prog.cellsOf 4 = 1 := by kernel_rfl
theorem cellsS : Try.prog.cellsOf 47 = 3 := by kernel_rfl
theorem cellsSs : Try.prog.cellsOf 22 = 1 := by kernel_rfl
theorem cellsD : Try.prog.cellsOf 24 = 1 := by kernel_rfl

section
variable {H : Type} {enc : TypeId × Value → H} {w : World} {base : Nat} {spare : Nat → Bool} {held : Bool}

set_option maxRecDepth 100000 in
theorem open_slt {x : Addr} {cs : List Value} {y : DataW H × List MemPlace} {fuel : Nat} (hc : w.cells? base x 3 = some cs) (ht : DataW.trod enc Try.prog w base spare held fuel 47 cs = some y) :
    ∃ (b off : Nat) (c : Slt), x = ⟨b, off, none⟩ ∧ w.cell? ⟨b, off, none⟩ = some (.string c.safe) ∧ w.cell? ⟨b, off + 1, none⟩ = some (.string c.wait) ∧ w.cell? ⟨b, off + 1 + 1, none⟩ = some (.bool c.has) ∧ c.wait.size ≤ maxLen := by
  obtain ⟨_, hlen, hat⟩ := World.cells?_some hc
  obtain ⟨y0, y1, y2, n, _, _, h0, h1, h2⟩ := trod_struct3 Try.underlying47 ht
  match cs, hlen with
  | [a0, a1, a2], _ =>
    obtain ⟨k, e0, _, hk⟩ := DataW.trod_string Try.underlying9 h0
    obtain ⟨m, e1, _, hm⟩ := DataW.trod_string Try.underlying9 h1
    obtain ⟨s, e2, _⟩ := DataW.trod_bool Try.underlying4 h2
    simp [cellsStr] at e0
    simp [cellsStr] at e1
    simp [cellsB] at e2
    subst e0 e1 e2
    obtain ⟨b, off, spot⟩ := x
    have g0 := hat 0 (by omega)
    have g1 := hat 1 (by omega)
    have g2 := hat 2 (by omega)
    have hspot : spot = none := by simpa [Addr.add] using World.cell?_spot g0
    subst hspot
    refine ⟨b, off, ⟨k, m, s⟩, rfl, ?_, ?_, ?_, hm⟩
    · simpa [Addr.add] using g0
    · simpa [Addr.add] using g1
    · simpa [Addr.add] using g2

theorem open_slots {v : Value} {y : DataW H × List MemPlace} {fuel : Nat} (hf : DataW.trod enc Try.prog w base spare held fuel 22 [v] = some y) :
    ∃ a cap r, v = .slice a (List.length (α := Slt) r) cap ∧ slotsAt w a r ∧ r.length ≤ 9223372036854775807 ∧ ∀ c ∈ r, c.wait.size ≤ maxLen := by
  rcases open_slice Try.underlying22 hf with ⟨hcs, _⟩ | ⟨x, len, cap, m, n, D, Pl, hcs, _, hl, hm, hmm, _, hel⟩
  · simp at hcs
    subst hcs
    exact ⟨none, 0, [], rfl, fun i hi => absurd hi (Nat.not_lt_zero i), by simp, fun n hn => by cases hn⟩
  · simp at hcs
    subst hcs
    have hle : len ≤ m := by rw [hmm]; split <;> omega
    rw [cellsS] at hel
    obtain ⟨f, hfam⟩ := choose_lt (α := Slt) (n := len) (p := fun i c => ∃ b off, x = ⟨b, off, none⟩ ∧ w.cell? ⟨b, off + i * 3, none⟩ = some (.string c.safe) ∧ w.cell? ⟨b, off + i * 3 + 1, none⟩ = some (.string c.wait) ∧ w.cell? ⟨b, off + i * 3 + 1 + 1, none⟩ = some (.bool c.has) ∧ c.wait.size ≤ maxLen) (fun i hi => by
      obtain ⟨cs', h1, h2⟩ := hel i (by omega)
      obtain ⟨b, off, c, e, g0, g1, g2, hw⟩ := open_slt h1 h2
      obtain ⟨cs0, z1, z2⟩ := hel 0 (by omega)
      obtain ⟨b0, off0, c0, e0, _⟩ := open_slt z1 z2
      have ex : x = ⟨b0, off0, none⟩ := by simpa [Addr.add] using e0
      subst ex
      have ea : (⟨b0, off0, none⟩ : Addr).add (i * 3) = ⟨b0, off0 + i * 3, none⟩ := by unfold Addr.add; split <;> simp_all
      rw [ea] at e
      cases e
      exact ⟨c, b, off0, rfl, g0, g1, g2, hw⟩)
    refine ⟨some x, cap, (List.range len).map f, by simp, ?_, by unfold maxLen at hm; simp; omega, ?_⟩
    · intro i hi
      have hi' : i < len := by simpa using hi
      obtain ⟨b, off, rfl, g0, g1, g2, _⟩ := hfam i hi'
      have e : ((List.range len).map f).getD i default = f i := by simp [List.getD_eq_getElem?_getD, hi']
      rw [e]
      exact ⟨b, off, rfl, g0, g1, g2⟩
    · intro c hc
      obtain ⟨i, hi, rfl⟩ := List.mem_map.1 hc
      obtain ⟨_, _, _, _, _, _, hw⟩ := hfam i (by simpa using hi)
      exact hw

set_option maxRecDepth 100000 in
theorem open_disk {r : Reach} {b0 : Nat} {v : Value} {d : DataW H} {pl : List MemPlace} (hv : Value.okWide Try.prog w r b0 24 v) (h : DataW.Trod enc Try.prog w base spare held 24 v d pl) :
    ∃ a cap l, v = diskV a (List.length (α := Slt) l) cap ∧ slotsAt w a l ∧ l.length ≤ 9223372036854775807 ∧ ∀ c ∈ l, c.wait.size ≤ maxLen := by
  obtain ⟨cs, rfl, hsz⟩ := okWide_struct Try.underlying24 hv
  have hsz2 : cs.size = 1 := hsz.trans cellsD
  obtain ⟨cs⟩ := cs
  match cs, hsz2 with
  | [c0], _ =>
    obtain ⟨fuel, hf⟩ := h
    obtain ⟨xs, n, _, _, _, hlen, hat⟩ := DataW.trod_struct Try.underlying24 hf
    match xs, hlen with
    | [y0], _ =>
      have h0 := hat 0 _ rfl
      simp [Value.cells, cellsSs] at h0
      obtain ⟨a, cap, l, e, h1, h2, h3⟩ := open_slots h0
      subst e
      exact ⟨a, cap, l, rfl, h1, h2, h3⟩

set_option maxRecDepth 100000 in
theorem open_icell {x : Addr} {cs : List Value} {y : DataW H × List MemPlace} {fuel : Nat} (hc : w.cells? base x 1 = some cs) (ht : DataW.trod enc Try.prog w base spare held fuel 3 cs = some y) :
    ∃ (b off : Nat) (n : Int), x = ⟨b, off, none⟩ ∧ w.cell? ⟨b, off, none⟩ = some (.int .i64 n) := by
  obtain ⟨_, hlen, hat⟩ := World.cells?_some hc
  obtain ⟨n, e0, _, wn⟩ := DataW.trod_int Try.underlying3 ht
  subst e0
  obtain ⟨b, off, spot⟩ := x
  have g0 := hat 0 (by omega)
  have hspot : spot = none := by simpa [Addr.add] using World.cell?_spot g0
  subst hspot
  exact ⟨b, off, n, rfl, by simpa [Addr.add] using g0⟩
theorem open_ints {a : Option Addr} {len cap : Nat} {d : DataW H} {p : List MemPlace} (h : DataW.Trod enc Try.prog w base spare held 40 (.slice a len cap) d p) :
    ∃ l : List Int, l.length = len ∧ intsAt w a l ∧ len ≤ 9223372036854775807 := by
  obtain ⟨fuel, hf⟩ := h
  rcases open_slice Try.underlying40 hf with ⟨hcs, _⟩ | ⟨x, l, c, m, n, D, Pl, hcs, _, hl, hm, hmm, _, hel⟩
  · simp [Value.cells] at hcs
    obtain ⟨rfl, rfl, rfl⟩ := hcs
    exact ⟨[], rfl, fun i hi => absurd hi (Nat.not_lt_zero i), by omega⟩
  · simp [Value.cells] at hcs
    obtain ⟨rfl, rfl, rfl⟩ := hcs
    have hle : len ≤ m := by rw [hmm]; split <;> omega
    rw [cellsInt] at hel
    obtain ⟨f, hfam⟩ := choose_lt (α := Int) (n := len) (p := fun i c => ∃ b off, x = ⟨b, off, none⟩ ∧ w.cell? ⟨b, off + i, none⟩ = some (.int .i64 c)) (fun i hi => by
      obtain ⟨cs', h1, h2⟩ := hel i (by omega)
      obtain ⟨b, off, c, e, g0⟩ := open_icell h1 h2
      obtain ⟨cs0, z1, z2⟩ := hel 0 (by omega)
      obtain ⟨b0, off0, c0, e0, _⟩ := open_icell z1 z2
      have ex : x = ⟨b0, off0, none⟩ := by simpa [Addr.add] using e0
      subst ex
      have ea : (⟨b0, off0, none⟩ : Addr).add (i * 1) = ⟨b0, off0 + i, none⟩ := by unfold Addr.add; split <;> simp_all
      rw [ea] at e
      cases e
      exact ⟨c, b, off0, rfl, g0⟩)
    refine ⟨(List.range len).map f, by simp, ?_, by unfold maxLen at hm; omega⟩
    intro i hi
    have hi' : i < len := by simpa using hi
    obtain ⟨b, off, rfl, g0⟩ := hfam i hi'
    have e : ((List.range len).map f).getD i 0 = f i := by simp [List.getD_eq_getElem?_getD, hi']
    rw [e]
    exact ⟨b, off, rfl, g0⟩
end
end Go.Proofs.Ytdjlnloalpfmoaa.dk
