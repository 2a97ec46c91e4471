/- Several texts in one: BufOpen, BufOpen2, BufBulk. -/
import Derived.Test.YtnfknkihiapgiaaBufUni
import Derived.Test.YtnfknkihiapgiaaFvB
import Derived.ChangeSame
import Derived.Lib.SmallJoins
import Derived.Test.YtnfknkihiapgiaaRows
/- What is read of entries, and of a buffer, that came in. -/
namespace Go.Proofs.Ytnfknkihiapgiaa.bf
open Go.ChangeShapes Go.WideShapes Go.ChangeAt Go.RowKit Go.Joins Go.Deep
open vl
set_option linter.unusedVariables false
set_option linter.unusedSimpArgs false
theorem cellsE : Try.prog.cellsOf 28 = 5 := by kernel_rfl
theorem cellsRw : Try.prog.cellsOf 26 = 1 := by kernel_rfl
theorem cellsBl : Try.prog.cellsOf 4 = 1 := by kernel_rfl
theorem cellsSt : Try.prog.cellsOf 9 = 1 := by kernel_rfl
def intsAt (w : World) (a : Option Addr) (l : List Int) : Prop :=
  ∀ i, i < l.length → ∃ b off, a = some ⟨b, off, none⟩ ∧ w.cell? ⟨b, off + i, none⟩ = some (.int .i64 (l.getD i 0))
section
variable {H : Type} {enc : TypeId × Value → H} {w : World} {base : Nat} {spare : Nat → Bool} {held : Bool}
theorem open_one {v : Value} {y : DataW H × List MemPlace} {fuel : Nat} (h : DataW.trod enc Try.prog w base spare held fuel 26 [v] = some y) :
    ∃ a len cap r, v = .slice a len cap ∧ List.length (α := Cel) r = len ∧ vl.rowAt w a r ∧ wfRow r ∧ len ≤ 9223372036854775807 := by
  rcases open_slice Try.underlying26 h with ⟨hcs, _⟩ | ⟨x, l, c, m, n, D, Pl, hcs, _⟩
  · simp at hcs
    subst hcs
    obtain ⟨r, h1, h2, h3, h4⟩ := open_row (a := none) (len := 0) (cap := 0) (d := y.1) (p := y.2) ⟨fuel, h⟩
    exact ⟨_, _, _, r, rfl, h1, h2, h3, h4⟩
  · simp at hcs
    subst hcs
    obtain ⟨r, h1, h2, h3, h4⟩ := open_row (a := some x) (len := l) (cap := c) (d := y.1) (p := y.2) ⟨fuel, h⟩
    exact ⟨_, _, _, r, rfl, h1, h2, h3, h4⟩
/-- an entry that came in is one -/
structure inE (w : World) (e : EM) (x : Ent) : Prop where
  er : ER w e x
  wf : wfE x
  wp : wfP (plOf x)
set_option maxRecDepth 100000 in
set_option maxHeartbeats 1000000 in
theorem open_ecell {x : Addr} {cs : List Value} {y : DataW H × List MemPlace} {fuel : Nat} (hc : w.cells? base x 5 = some cs) (ht : DataW.trod enc Try.prog w base spare held fuel 28 cs = some y) :
    ∃ (b off : Nat) (c : EM × Ent), x = ⟨b, off, none⟩ ∧ w.cell? ⟨b, off, none⟩ = some (.string c.1.key) ∧ w.cell? ⟨b, off + 1, none⟩ = some (.int .i64 c.1.time) ∧ w.cell? ⟨b, off + 2, none⟩ = some (.int .i64 c.1.seq) ∧ w.cell? ⟨b, off + 3, none⟩ = some (hdV c.1.row) ∧ w.cell? ⟨b, off + 4, none⟩ = some (.bool c.1.met) ∧ inE w c.1 c.2 := by
  obtain ⟨_, hlen, hat⟩ := World.cells?_some hc
  obtain ⟨xs, n, _, _, _, hxl, hfs⟩ := DataW.trod_struct Try.underlying28 ht
  match xs, hxl with
  | [y0, y1, y2, y3, y4], _ =>
    have h0 := hfs 0 _ rfl
    have h1 := hfs 1 _ rfl
    have h2 := hfs 2 _ rfl
    have h3 := hfs 3 _ rfl
    have h4 := hfs 4 _ rfl
    match cs, hlen with
    | [a0, a1, a2, a3, a4], _ =>
      simp [cellsSt] at h0
      simp [cellsInt] at h1 h2
      simp [cellsRw] at h3
      simp [cellsBl] at h4
      obtain ⟨s0, e0, _, ws⟩ := DataW.trod_string Try.underlying9 h0
      obtain ⟨n1, e1, _, w1⟩ := DataW.trod_int Try.underlying3 h1
      obtain ⟨n2, e2, _, w2⟩ := DataW.trod_int Try.underlying3 h2
      obtain ⟨ra, rl, rc, r, e3, hl, hr, hw, hm⟩ := open_one h3
      obtain ⟨m4, e4, _⟩ := DataW.trod_bool Try.underlying4 h4
      simp only [List.cons.injEq, and_true] at e0 e1 e2 e4
      subst e0 e1 e2 e3 e4 hl
      obtain ⟨b, off, spot⟩ := x
      have g0 := hat 0 (by omega)
      have g1 := hat 1 (by omega)
      have g2 := hat 2 (by omega)
      have g3 := hat 3 (by omega)
      have g4 := hat 4 (by omega)
      have hspot : spot = none := by simpa [Addr.add] using World.cell?_spot g0
      subst hspot
      refine ⟨b, off, (⟨s0, n1, n2, (ra, r.length, rc), m4⟩, ⟨s0, n1, n2, r, m4⟩), rfl, ?_, ?_, ?_, ?_, ?_, ⟨⟨rfl, rfl, rfl, rfl, rfl, hr⟩, ⟨ws, hw, hm⟩, ?_⟩⟩
      · simpa [Addr.add] using g0
      · simpa [Addr.add] using g1
      · simpa [Addr.add] using g2
      · simpa [Addr.add, hdV] using g3
      · simpa [Addr.add] using g4
      · exact ⟨ws, bounds_i64 w1, bounds_i64 w2⟩
theorem open_ents {v : Value} {y : DataW H × List MemPlace} {fuel : Nat} (hf : DataW.trod enc Try.prog w base spare held fuel 22 [v] = some y) :
    ∃ (a : Option Addr) (cap : Nat) (es : List EM) (l : List Ent), v = .slice a es.length cap ∧ emsAt w a es ∧ es.length = l.length ∧ es.length ≤ 9223372036854775807 ∧ ∀ i, i < l.length → inE w (es.getD i default) (l.getD i default) := by
  rcases open_slice Try.underlying22 hf with ⟨hcs, _⟩ | ⟨x, len, cap, m, n, D, Pl, hcs, _, hl, hm, hmm, _, hel⟩
  · simp at hcs
    subst hcs
    exact ⟨none, 0, [], [], rfl, fun i hi => absurd hi (Nat.not_lt_zero i), rfl, by simp, fun i hi => absurd hi (Nat.not_lt_zero i)⟩
  · simp at hcs
    subst hcs
    have hle : len ≤ m := by rw [hmm]; split <;> omega
    rw [cellsE] at hel
    obtain ⟨f, hfam⟩ := choose_lt (α := EM × Ent) (n := len) (p := fun i c => ∃ b off, x = ⟨b, off, none⟩ ∧ w.cell? ⟨b, off + i * 5, none⟩ = some (.string c.1.key) ∧ w.cell? ⟨b, off + i * 5 + 1, none⟩ = some (.int .i64 c.1.time) ∧ w.cell? ⟨b, off + i * 5 + 2, none⟩ = some (.int .i64 c.1.seq) ∧ w.cell? ⟨b, off + i * 5 + 3, none⟩ = some (hdV c.1.row) ∧ w.cell? ⟨b, off + i * 5 + 4, none⟩ = some (.bool c.1.met) ∧ inE w c.1 c.2) (fun i hi => by
      obtain ⟨cs', h1, h2⟩ := hel i (by omega)
      obtain ⟨b, off, c, e, g0, g1, g2, g3, g4, hw⟩ := open_ecell h1 h2
      obtain ⟨cs0, z1, z2⟩ := hel 0 (by omega)
      obtain ⟨b0, off0, c0, e0, _⟩ := open_ecell z1 z2
      have ex : x = ⟨b0, off0, none⟩ := by simpa [Addr.add] using e0
      subst ex
      have ea : (⟨b0, off0, none⟩ : Addr).add (i * 5) = ⟨b0, off0 + i * 5, none⟩ := by unfold Addr.add; split <;> simp_all
      rw [ea] at e
      cases e
      exact ⟨c, b, off0, rfl, g0, g1, g2, g3, g4, hw⟩)
    refine ⟨some x, cap, (List.range len).map fun i => (f i).1, (List.range len).map fun i => (f i).2, by simp, ?_, by simp, by unfold maxLen at hm; simp; omega, ?_⟩
    · intro i hi
      have hi' : i < len := by simpa using hi
      obtain ⟨b, off, rfl, g0, g1, g2, g3, g4, _⟩ := hfam i hi'
      have e : ((List.range len).map fun i => (f i).1).getD i default = (f i).1 := by simp [List.getD_eq_getElem?_getD, hi']
      rw [e]
      exact ⟨b, off, rfl, g0, g1, g2, g3, g4⟩
    · intro i hi
      have hi' : i < len := by simpa using hi
      obtain ⟨_, _, _, _, _, _, _, _, hw⟩ := hfam i hi'
      have e1 : ((List.range len).map fun i => (f i).1).getD i default = (f i).1 := by simp [List.getD_eq_getElem?_getD, hi']
      have e2 : ((List.range len).map fun i => (f i).2).getD i default = (f i).2 := by simp [List.getD_eq_getElem?_getD, hi']
      rw [e1, e2]
      exact hw
set_option maxRecDepth 100000 in
theorem open_icell {x : Addr} {cs : List Value} {y : DataW H × List MemPlace} {fuel : Nat} (hc : w.cells? base x 1 = some cs) (ht : DataW.trod enc Try.prog w base spare held fuel 3 cs = some y) :
    ∃ (b off : Nat) (n : Int), x = ⟨b, off, none⟩ ∧ w.cell? ⟨b, off, none⟩ = some (.int .i64 n) := by
  obtain ⟨_, hlen, hat⟩ := World.cells?_some hc
  obtain ⟨n, e0, _, wn⟩ := DataW.trod_int Try.underlying3 ht
  subst e0
  obtain ⟨b, off, spot⟩ := x
  have g0 := hat 0 (by omega)
  have hspot : spot = none := by simpa [Addr.add] using World.cell?_spot g0
  subst hspot
  exact ⟨b, off, n, rfl, by simpa [Addr.add] using g0⟩
theorem open_ints {a : Option Addr} {len cap : Nat} {d : DataW H} {p : List MemPlace} (h : DataW.Trod enc Try.prog w base spare held 52 (.slice a len cap) d p) :
    ∃ l : List Int, l.length = len ∧ intsAt w a l ∧ len ≤ 9223372036854775807 := by
  obtain ⟨fuel, hf⟩ := h
  rcases open_slice Try.underlying52 hf with ⟨hcs, _⟩ | ⟨x, l, c, m, n, D, Pl, hcs, _, hl, hm, hmm, _, hel⟩
  · simp [Value.cells] at hcs
    obtain ⟨rfl, rfl, rfl⟩ := hcs
    exact ⟨[], rfl, fun i hi => absurd hi (Nat.not_lt_zero i), by omega⟩
  · simp [Value.cells] at hcs
    obtain ⟨rfl, rfl, rfl⟩ := hcs
    have hle : len ≤ m := by rw [hmm]; split <;> omega
    rw [cellsInt] at hel
    obtain ⟨f, hfam⟩ := choose_lt (α := Int) (n := len) (p := fun i c => ∃ b off, x = ⟨b, off, none⟩ ∧ w.cell? ⟨b, off + i, none⟩ = some (.int .i64 c)) (fun i hi => by
      obtain ⟨cs', h1, h2⟩ := hel i (by omega)
      obtain ⟨b, off, c, e, g0⟩ := open_icell h1 h2
      obtain ⟨cs0, z1, z2⟩ := hel 0 (by omega)
      obtain ⟨b0, off0, c0, e0, _⟩ := open_icell z1 z2
      have ex : x = ⟨b0, off0, none⟩ := by simpa [Addr.add] using e0
      subst ex
      have ea : (⟨b0, off0, none⟩ : Addr).add (i * 1) = ⟨b0, off0 + i, none⟩ := by unfold Addr.add; split <;> simp_all
      rw [ea] at e
      cases e
      exact ⟨c, b, off0, rfl, g0⟩)
    refine ⟨(List.range len).map f, by simp, ?_, by unfold maxLen at hm; omega⟩
    intro i hi
    have hi' : i < len := by simpa using hi
    obtain ⟨b, off, rfl, g0⟩ := hfam i hi'
    have e : ((List.range len).map f).getD i 0 = f i := by simp [List.getD_eq_getElem?_getD, hi']
    rw [e]
    exact ⟨b, off, rfl, g0⟩
end
end Go.Proofs.Ytnfknkihiapgiaa.bf

/- What is read of entries that came in, as a slice. -/
namespace Go.Proofs.Ytnfknkihiapgiaa.bf
open Go.ChangeShapes Go.WideShapes Go.ChangeAt Go.RowKit Go.Joins Go.Deep
open vl
set_option linter.unusedVariables false
set_option linter.unusedSimpArgs false
section
variable {H : Type} {enc : TypeId × Value → H} {w : World} {base : Nat} {spare : Nat → Bool} {held : Bool}
theorem open_entries {a : Option Addr} {len cap : Nat} {d : DataW H} {p : List MemPlace} (h : DataW.Trod enc Try.prog w base spare held 22 (.slice a len cap) d p) :
    ∃ (es : List EM) (l : List Ent), es.length = len ∧ emsAt w a es ∧ es.length = l.length ∧ es.length ≤ 9223372036854775807 ∧ ∀ i, i < l.length → inE w (es.getD i default) (l.getD i default) := by
  obtain ⟨fuel, hf⟩ := h
  obtain ⟨a', cap', es, l, hv, h1, h2, h3, h4⟩ := open_ents (v := .slice a len cap) (by simpa [Value.cells] using hf)
  injection hv with e1 e2 e3
  subst e1 e2
  exact ⟨es, l, rfl, h1, h2, h3, h4⟩
end
end Go.Proofs.Ytnfknkihiapgiaa.bf

/- How much a buffer that came in holds, and that it is one. -/
namespace Go.Proofs.Ytnfknkihiapgiaa.bf
open Go.ChangeShapes Go.WideShapes Go.ChangeAt Go.RowKit Go.Joins Go.Deep
open vl
set_option linter.unusedVariables false
set_option linter.unusedSimpArgs false
theorem bk_one {H : Type} (d : DataW H) : 1 ≤ Rows.uptoBulk d := by
  cases d with
  | lit l => cases l <;> simp [Rows.uptoBulk]
  | _ => simp [Rows.uptoBulk]
theorem bk_mem {H : Type} {d : DataW H} : ∀ {l : List (DataW H)}, d ∈ l → Rows.uptoBulk d ≤ Rows.uptoBulkAll l
  | [], h => by cases h
  | x :: r, h => by
    rw [Rows.uptoBulkAll]
    rcases List.mem_cons.1 h with e | e
    · subst e; omega
    · have := bk_mem e; omega
theorem bk_app {H : Type} (r : List (DataW H)) : ∀ l : List (DataW H), Rows.uptoBulkAll (l ++ r) = Rows.uptoBulkAll l + Rows.uptoBulkAll r
  | [] => by simp [Rows.uptoBulkAll]
  | x :: l => by
    rw [List.cons_append, Rows.uptoBulkAll, Rows.uptoBulkAll, bk_app r l]; omega
theorem bk_len {H : Type} : ∀ l : List (DataW H), l.length ≤ Rows.uptoBulkAll l
  | [] => by simp
  | x :: r => by
    have h1 := bk_one x
    have h2 := bk_len r
    rw [Rows.uptoBulkAll, List.length_cons]; omega
/-- so many in all -/
theorem bk_flat {H : Type} (g : Nat → List Ent) (D : Nat → DataW H) : ∀ n, (∀ i, i < n → (g i).length ≤ Rows.uptoBulk (D i)) → ((List.range n).map g).flatten.length ≤ Rows.uptoBulkAll ((List.range n).map D)
  | 0, _ => by simp
  | n + 1, h => by
    have h1 := bk_flat g D n (fun i hi => h i (by omega))
    have h2 := h n (Nat.lt_succ_self n)
    rw [List.range_succ, List.map_append, List.map_append, bk_app, List.flatten_append, List.length_append]
    simp only [List.map_cons, List.map_nil, List.flatten_cons, List.flatten_nil, List.append_nil, Rows.uptoBulkAll]
    omega
section
variable {H : Type} {enc : TypeId × Value → H} {w : World} {base : Nat} {spare : Nat → Bool} {held : Bool}
theorem bk_slice {t e : TypeId} {a : Option Addr} {len cap : Nat} {y : DataW H × List MemPlace} {fuel : Nat} (hu : Try.prog.underlying t = some (.slice e)) (h : DataW.trod enc Try.prog w base spare held fuel t [.slice a len cap] = some y) : len ≤ Rows.uptoBulk y.1 := by
  rcases open_slice hu h with ⟨hcs, _⟩ | ⟨x, l, c, m, n, D, Pl, hcs, _, _, _, _, hy, _⟩
  · simp at hcs; omega
  · simp at hcs
    obtain ⟨_, rfl, _⟩ := hcs
    rw [hy]
    have := bk_len ((List.range len).map D)
    simp only [Rows.uptoBulk]
    simp at this
    omega
set_option maxRecDepth 100000 in
theorem ecell_bulk {b off : Nat} {cs : List Value} {y : DataW H × List MemPlace} {fuel : Nat} {k : ByteArray} {a : Option Addr} {len cap : Nat} (hc : w.cells? base ⟨b, off, none⟩ 5 = some cs) (ht : DataW.trod enc Try.prog w base spare held fuel 28 cs = some y) (hk : w.cell? ⟨b, off, none⟩ = some (.string k)) (hr : w.cell? ⟨b, off + 3, none⟩ = some (.slice a len cap)) : k.size ≤ Rows.uptoBulk y.1 ∧ len ≤ Rows.uptoBulk y.1 := by
  obtain ⟨_, hlen, hat⟩ := World.cells?_some hc
  obtain ⟨xs, n, _, hy, _, hxl, hfs⟩ := DataW.trod_struct Try.underlying28 ht
  match xs, hxl with
  | [y0, y1, y2, y3, y4], _ =>
    have h0 := hfs 0 _ rfl
    have h3 := hfs 3 _ rfl
    match cs, hlen with
    | [a0, a1, a2, a3, a4], _ =>
      simp [cellsSt] at h0
      simp [cellsRw] at h3
      have g0 := hat 0 (by omega)
      have g3 := hat 3 (by omega)
      simp [Addr.add, hk] at g0
      simp [Addr.add, hr] at g3
      subst g0 g3
      obtain ⟨s0, e0, ey, _⟩ := DataW.trod_string Try.underlying9 h0
      simp only [List.cons.injEq, and_true, Value.string.injEq] at e0
      subst e0
      have b0 : Rows.uptoBulk y0.1 = k.data.toList.length + 1 := by rw [ey]; simp [Rows.uptoBulk]
      have b3 := bk_slice Try.underlying26 h3
      have e : k.data.toList.length = k.size := by rw [Array.length_toList]; rfl
      rw [hy]
      simp only [List.map_cons, List.map_nil, Rows.uptoBulk, Rows.uptoBulkAll]
      omega
/-- the entries of a part that came in, and how much they hold -/
theorem open_part {v : Value} {y : DataW H × List MemPlace} {fuel : Nat} (hf : DataW.trod enc Try.prog w base spare held fuel 22 [v] = some y) :
    ∃ (q : Part) (l : List Ent), v = hdV q.1 ∧ q.1.2.1 = q.2.length ∧ emsAt w q.1.1 q.2 ∧ q.2.length = l.length ∧ q.2.length ≤ 9223372036854775807 ∧ (∀ i, i < l.length → inE w (q.2.getD i default) (l.getD i default)) ∧ l.length ≤ Rows.uptoBulk y.1 ∧ ∀ i, i < l.length → (l.getD i default).key.size ≤ Rows.uptoBulk y.1 ∧ (l.getD i default).row.length ≤ Rows.uptoBulk y.1 := by
  obtain ⟨a, cap, es, l, hv, hem, hel, hmx, hin⟩ := open_ents hf
  subst hv
  refine ⟨((a, es.length, cap), es), l, rfl, rfl, hem, hel, hmx, hin, ?_, fun i hi => ?_⟩
  · rw [← hel]; exact bk_slice Try.underlying22 hf
  · rcases open_slice Try.underlying22 hf with ⟨hcs, _⟩ | ⟨x, len, c, m, n, D, Pl, hcs, _, hl, hm, hmm, hy, hx⟩
    · simp at hcs
      obtain ⟨_, h0, _⟩ := hcs
      rw [h0] at hel
      simp at hel
      omega
    · simp at hcs
      obtain ⟨hx0, hln, _⟩ := hcs
      have hle : len ≤ m := by rw [hmm]; split <;> omega
      have hil : i < len := by omega
      obtain ⟨cs', h1, h2⟩ := hx i (by omega)
      rw [cellsE] at h1
      obtain ⟨b, off, ea, g0, g1, g2, g3, g4⟩ := hem i (by omega)
      rw [hx0] at ea
      cases ea
      have ead : (⟨b, off, none⟩ : Addr).add (i * 5) = ⟨b, off + i * 5, none⟩ := add_at _ _ _
      rw [ead] at h1
      have hi' := (hin i hi).er
      unfold hdV at g3
      have k := ecell_bulk h1 h2 g0 g3
      have hb : Rows.uptoBulk (D i) ≤ Rows.uptoBulk y.1 := by
        rw [hy]
        have := bk_mem (l := (List.range len).map D) (List.mem_map.2 ⟨i, List.mem_range.2 hil, rfl⟩)
        simp only [Rows.uptoBulk]
        omega
      rw [hi'.key, hi'.len] at k
      dsimp only at k
      omega
theorem cellsHd : Try.prog.cellsOf 22 = 1 := by kernel_rfl
/-- the runs that came in -/
theorem open_runs {v : Value} {y : DataW H × List MemPlace} {fuel : Nat} (hf : DataW.trod enc Try.prog w base spare held fuel 23 [v] = some y) :
    ∃ (ra : Option Addr) (rc : Nat) (rs : List Part) (runs : List (List Ent)), v = .slice ra rs.length rc ∧ hdsAt w ra (rs.map (·.1)) ∧ rs.length = runs.length ∧ rs.length ≤ 9223372036854775807 ∧ runs.flatten.length ≤ Rows.uptoBulk y.1 ∧
      ∀ i, i < runs.length → (rs.getD i default).1.2.1 = (rs.getD i default).2.length ∧ (rs.getD i default).2.length ≤ 9223372036854775807 ∧ emsAt w (rs.getD i default).1.1 (rs.getD i default).2 ∧ (rs.getD i default).2.length = (runs.getD i default).length ∧ (∀ j, j < (runs.getD i default).length → inE w ((rs.getD i default).2.getD j default) ((runs.getD i default).getD j default)) ∧ ∀ j, j < (runs.getD i default).length → ((runs.getD i default).getD j default).key.size ≤ Rows.uptoBulk y.1 ∧ ((runs.getD i default).getD j default).row.length ≤ Rows.uptoBulk y.1 := by
  rcases open_slice Try.underlying23 hf with ⟨hcs, _⟩ | ⟨x, len, c, m, n, D, Pl, hcs, _, hl, hm, hmm, hy, hx⟩
  · simp at hcs
    subst hcs
    exact ⟨none, 0, [], [], rfl, fun i hi => absurd hi (Nat.not_lt_zero i), rfl, by simp, by simp, fun i hi => absurd hi (Nat.not_lt_zero i)⟩
  · simp at hcs
    subst hcs
    have hle : len ≤ m := by rw [hmm]; split <;> omega
    rw [cellsHd] at hx
    obtain ⟨f, hfam⟩ := choose_lt (α := Part × List Ent) (n := len) (p := fun i q => ∃ b off, x = ⟨b, off, none⟩ ∧ w.cell? ⟨b, off + i, none⟩ = some (hdV q.1.1) ∧ q.1.1.2.1 = q.1.2.length ∧ emsAt w q.1.1.1 q.1.2 ∧ q.1.2.length = q.2.length ∧ q.1.2.length ≤ 9223372036854775807 ∧ (∀ j, j < q.2.length → inE w (q.1.2.getD j default) (q.2.getD j default)) ∧ q.2.length ≤ Rows.uptoBulk (D i) ∧ ∀ j, j < q.2.length → (q.2.getD j default).key.size ≤ Rows.uptoBulk (D i) ∧ (q.2.getD j default).row.length ≤ Rows.uptoBulk (D i)) (fun i hi => by
      obtain ⟨cs', h1, h2⟩ := hx i (by omega)
      obtain ⟨_, hlen, hat⟩ := World.cells?_some h1
      match cs', hlen with
      | [u], _ =>
        obtain ⟨q, l, hv, r1, r2, r3, r4, r5, r6, r7⟩ := open_part h2
        have g0 := hat 0 (by omega)
        obtain ⟨b, off, spot⟩ := x
        obtain ⟨cs0, z1, _⟩ := hx 0 (by omega)
        obtain ⟨_, hl0, hat0⟩ := World.cells?_some z1
        obtain ⟨u0, hu0⟩ : ∃ u0, cs0 = [u0] := by
          match cs0, hl0 with
          | [u0], _ => exact ⟨u0, rfl⟩
        subst hu0
        have g00 : w.cell? ((Addr.mk b off spot).add (0 * 1) |>.add 0) = some u0 := hat0 0 (by omega)
        have hspot : spot = none := by simpa [Addr.add] using World.cell?_spot g00
        subst hspot
        rw [Nat.mul_one, add_at] at g0
        rw [add_at] at g0
        simp at g0
        subst hv
        exact ⟨(q, l), b, off, rfl, g0, r1, r2, r3, r4, r5, r6, r7⟩)
    have hb : ∀ i, i < len → Rows.uptoBulk (D i) ≤ Rows.uptoBulk y.1 := fun i hi => by
      rw [hy]
      have := bk_mem (l := (List.range len).map D) (List.mem_map.2 ⟨i, List.mem_range.2 hi, rfl⟩)
      simp only [Rows.uptoBulk]
      omega
    refine ⟨some x, c, (List.range len).map fun i => (f i).1, (List.range len).map fun i => (f i).2, by simp, fun i hi => ?_, by simp, by unfold maxLen at hm; simp; omega, ?_, fun i hi => ?_⟩
    · have hi' : i < len := by simpa using hi
      obtain ⟨b, off, rfl, g0, _⟩ := hfam i hi'
      refine ⟨b, off, rfl, ?_⟩
      have e : (((List.range len).map fun i => (f i).1).map (·.1)).getD i (none, 0, 0) = (f i).1.1 := by simp [List.getD_eq_getElem?_getD, hi']
      rw [e]; exact g0
    · have h1 := bk_flat (fun i => (f i).2) D len (fun i hi => (hfam i hi).choose_spec.choose_spec.2.2.2.2.2.2.2.1)
      rw [hy]
      simp only [Rows.uptoBulk]
      omega
    · have hi' : i < len := by simpa using hi
      obtain ⟨_, _, _, _, r1, r2, r3, r4, r5, r6, r7⟩ := hfam i hi'
      have e1 : ((List.range len).map fun i => (f i).1).getD i default = (f i).1 := by simp [List.getD_eq_getElem?_getD, hi']
      have e2 : ((List.range len).map fun i => (f i).2).getD i default = (f i).2 := by simp [List.getD_eq_getElem?_getD, hi']
      rw [e1, e2]
      exact ⟨r1, r4, r2, r3, r5, fun j hj => by have := r7 j hj; have := hb i hi'; omega⟩
theorem cellsBf : Try.prog.cellsOf 25 = 3 := by kernel_rfl
theorem mem_of_getD {α : Type} {l : List α} {d y : α} (h : y ∈ l) : ∃ j, j < l.length ∧ l.getD j d = y := by
  obtain ⟨j, hj, rfl⟩ := List.getElem_of_mem h
  exact ⟨j, hj, by rw [List.getD_eq_getElem?_getD, List.getElem?_eq_getElem hj]; rfl⟩
set_option maxRecDepth 100000 in
/-- a buffer that came in is one, and holds no more than its bulk -/
theorem open_buffer {r : Reach} {b0 : Nat} {v : Value} {d : DataW H} {p : List MemPlace} (hv : Value.okWide Try.prog w r b0 25 v) (h : DataW.Trod enc Try.prog w base spare held 25 v d p) :
    ∃ (b : Buf) (x : BX), v = bufV b x ∧ bufAt w b x ∧ (entsB b).length ≤ Rows.uptoBulk d ∧ ∀ y ∈ entsB b, wfE y ∧ wfP (plOf y) ∧ y.key.size ≤ Rows.uptoBulk d ∧ y.row.length ≤ Rows.uptoBulk d := by
  obtain ⟨c0, c1, c2, y0, y1, y2, n, rfl, hd, _, h0, h1, h2⟩ := open_agg3 Try.underlying25 (by kernel_rfl) cellsBf hv h
  obtain ⟨lim, e0, _, _⟩ := DataW.trod_int Try.underlying3 h0
  simp only [List.cons.injEq, and_true] at e0
  subst e0
  obtain ⟨q, l, rfl, r1, r2, r3, r4, r5, r6, r7⟩ := open_part h1
  obtain ⟨ra, rc, rs, runs, rfl, s1, s2, s3, s4, s5⟩ := open_runs h2
  have hbk : Rows.uptoBulk d = Rows.uptoBulk y0.1 + (Rows.uptoBulk y1.1 + Rows.uptoBulk y2.1) + 1 := by
    rw [hd]; simp only [Rows.uptoBulk, Rows.uptoBulkAll]; omega
  refine ⟨⟨lim, l, runs⟩, ⟨ra, rc, q, rs⟩, rfl, ⟨s1, fun t ht => ?_, fun t ht => ?_, s3, ⟨r3, fun i hi => (r5 i hi).er⟩, s2, fun i hi => ⟨(s5 i hi).2.2.2.1, fun j hj => ((s5 i hi).2.2.2.2.1 j hj).er⟩⟩, ?_, fun y hy => ?_⟩
  · rcases List.mem_cons.1 ht with rfl | ht
    · exact ⟨r1, r4⟩
    · obtain ⟨i, hi, rfl⟩ := mem_of_getD (d := default) ht
      have := s5 i (by rw [← s2]; exact hi)
      exact ⟨this.1, this.2.1⟩
  · rcases List.mem_cons.1 ht with rfl | ht
    · exact r2
    · obtain ⟨i, hi, rfl⟩ := mem_of_getD (d := default) ht
      exact (s5 i (by rw [← s2]; exact hi)).2.2.1
  · rw [ents_eq, List.length_append]
    dsimp only
    omega
  · rw [ents_eq] at hy
    dsimp only at hy
    rcases List.mem_append.1 hy with hy | hy
    · obtain ⟨j, hj, rfl⟩ := mem_of_getD (d := default) hy
      have k := r7 j hj
      exact ⟨(r5 j hj).wf, (r5 j hj).wp, by omega, by omega⟩
    · obtain ⟨t, ht, hy⟩ := List.mem_flatten.1 hy
      obtain ⟨i, hi, rfl⟩ := mem_of_getD (d := default) ht
      obtain ⟨j, hj, rfl⟩ := mem_of_getD (d := default) hy
      have k := s5 i hi
      have k2 := k.2.2.2.2.2 j hj
      exact ⟨(k.2.2.2.2.1 j hj).wf, (k.2.2.2.2.1 j hj).wp, by omega, by omega⟩
end
end Go.Proofs.Ytnfknkihiapgiaa.bf
