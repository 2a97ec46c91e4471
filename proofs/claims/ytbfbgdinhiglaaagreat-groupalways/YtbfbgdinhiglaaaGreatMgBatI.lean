import Derived.Test.YtbfbgdinhiglaaaGreatS13
import Derived.Test.YtbfbgdinhiglaaaGreatMgValA
import Derived.Deep.RegionLaw
import Derived.Test.YtbfbgdinhiglaaaGreatS9
import Derived.Maps.OwnSet
import Derived.Test.YtbfbgdinhiglaaaGreatS5
import Derived.BigRegion
/- Several texts in one: BatFig, BatGS, BatRFig. -/
/- What a group's rows come to (E4): figures.sum, outermost, Of; figure. -/
namespace Go.Proofs.YtbfbgdinhiglaaaGreat.bt
open Go.ChangeShapes Go.WideShapes Go.ChangeAt Go.RowKit
open vl pl
set_option linter.unusedVariables false
set_option linter.unusedSimpArgs false
def noCel : Cel := ⟨0, 0, ⟨#[]⟩⟩
def cntS (v : List ch.Cnt) : Int := v.foldl (fun s c => wrap64 (s + c.n)) 0
def sumStep (col : Nat) (b : Cel) (c : ch.Cnt) : Cel := if (c.r.getD col default).k = 2 then ⟨2, wrap64 (b.n + wrap64 ((c.r.getD col default).n * c.n)), ⟨#[]⟩⟩ else b
def outStep (col : Nat) (way : Int) (b : Cel) (c : ch.Cnt) : Cel := if (c.r.getD col default).k = 0 then b else if b.k = 0 ∨ cmpC (c.r.getD col default) b = way then c.r.getD col default else b
/-- E4: a figure of these rows -/
def figC (a : Int × Int) (v : List ch.Cnt) : Cel :=
  if a.1 = 1 then ⟨2, cntS v, ⟨#[]⟩⟩ else if a.1 = 2 then v.foldl (sumStep a.2.toNat) noCel else if a.1 = 3 then v.foldl (outStep a.2.toNat (-1)) noCel else v.foldl (outStep a.2.toNat 1) noCel
theorem take_c (v : List ch.Cnt) (k : Nat) (h : k < v.length) : v.take (k + 1) = v.take k ++ [v.getD k default] := by
  rw [List.take_succ_eq_append_getElem h]; simp [List.getD_eq_getElem?_getD, h]
theorem foldl_take {β : Type} (f : β → ch.Cnt → β) (b : β) (v : List ch.Cnt) (k : Nat) (h : k < v.length) : (v.take (k + 1)).foldl f b = f ((v.take k).foldl f b) (v.getD k default) := by
  rw [take_c v k h, List.foldl_append]; rfl
def celV (c : Cel) : Value := .agg #[.int .i64 c.k, .int .i64 c.n, .string c.s]
abbrev Tal := Cel × Int
/-- tallies in memory -/
def bagAt (w : World) (a : Option Addr) (l : List Tal) : Prop := ∀ i, i < l.length → ∃ b o, a = some ⟨b, o, none⟩ ∧ w.cell? ⟨b, o + i * 4, none⟩ = some (.int .i64 (l.getD i default).1.k) ∧ w.cell? ⟨b, o + i * 4 + 1, none⟩ = some (.int .i64 (l.getD i default).1.n) ∧ w.cell? ⟨b, o + i * 4 + 2, none⟩ = some (.string (l.getD i default).1.s) ∧ w.cell? ⟨b, o + i * 4 + 3, none⟩ = some (.int .i64 (l.getD i default).2)
theorem bagAt_below {w w' : World} {a : Option Addr} {l : List Tal} (h : bagAt w a l) (hb : Below w.heap.size w w') : bagAt w' a l := fun i hi => by
  obtain ⟨b, o, e, x1, x2, x3, x4⟩ := h i hi
  exact ⟨b, o, e, cell_later hb x1, cell_later hb x2, cell_later hb x3, cell_later hb x4⟩
def sumT (b : Cel) (t : Tal) : Cel := if t.1.k = 2 then ⟨2, wrap64 (b.n + wrap64 (t.1.n * t.2)), ⟨#[]⟩⟩ else b
def outT (way : Int) (b : Cel) (t : Tal) : Cel := if t.1.k = 0 then b else if b.k = 0 ∨ cmpC t.1 b = way then t.1 else b
/-- a figure of n rows whose cells are in this bag -/
def figT (fn n : Int) (l : List Tal) : Cel :=
  if fn = 1 then ⟨2, n, ⟨#[]⟩⟩ else if fn = 2 then l.foldl sumT noCel else if fn = 3 then l.foldl (outT (-1)) noCel else l.foldl (outT 1) noCel
def bagOf (col : Nat) (v : List ch.Cnt) : List Tal := v.map fun c => (c.r.getD col default, c.n)
theorem figT_of (a : Int × Int) (v : List ch.Cnt) : figT a.1 (cntS v) (bagOf a.2.toNat v) = figC a v := by
  unfold figT figC bagOf
  simp only [List.foldl_map]
  rfl
theorem foldl_takeT {β : Type} (f : β → Tal → β) (b : β) (v : List Tal) (k : Nat) (h : k < v.length) : (v.take (k + 1)).foldl f b = f ((v.take k).foldl f b) (v.getD k default) := by
  rw [List.take_succ_eq_append_getElem h, List.foldl_append]; simp [List.getD_eq_getElem?_getD, h]
/-- a variable of a value, in memory -/
structure Box3 (B : Nat) (w : World) (c : Cel) : Prop where
  k : w.cell? ⟨B, 0, none⟩ = some (.int .i64 c.k)
  n : w.cell? ⟨B, 1, none⟩ = some (.int .i64 c.n)
  s : w.cell? ⟨B, 2, none⟩ = some (.string c.s)
  f : ∀ j, w.frozen? ⟨B, j, none⟩ = false
theorem Box3_below {B : Nat} {w w' : World} {c : Cel} (h : Box3 B w c) (hb : Below w.heap.size w w') : Box3 B w' c :=
  ⟨cell_later hb h.k, cell_later hb h.n, cell_later hb h.s, fun j => (hb.frozen (p := ⟨B, j, none⟩) (show B < _ from World.block_lt_of_cell? _ _ h.k)).trans (h.f j)⟩
theorem Box3_set {B : Nat} {w : World} {c : Cel} (h : Box3 B w c) (k n : Int) (s : ByteArray) : Box3 B (((w.setCell ⟨B, 0, none⟩ (.int .i64 k)).setCell ⟨B, 1, none⟩ (.int .i64 n)).setCell ⟨B, 2, none⟩ (.string s)) ⟨k, n, s⟩ := by
  have h0 := h.k
  have h1 := h.n
  have h2 := h.s
  have ne : ∀ i j : Nat, i ≠ j → (⟨B, i, none⟩ : Addr) ≠ ⟨B, j, none⟩ := fun i j h e => h (by cases e; rfl)
  refine ⟨?_, ?_, ?_, fun j => ?_⟩
  · rw [World.cell?_setCell_other _ _ _ _ (ne 2 0 (by decide)), World.cell?_setCell_other _ _ _ _ (ne 1 0 (by decide)), World.cell?_setCell_same _ _ _ h0]
  · rw [World.cell?_setCell_other _ _ _ _ (ne 2 1 (by decide)), World.cell?_setCell_same _ _ _ (by rw [World.cell?_setCell_other _ _ _ _ (ne 0 1 (by decide))]; exact h1)]
  · rw [World.cell?_setCell_same _ _ _ (by rw [World.cell?_setCell_other _ _ _ _ (ne 1 2 (by decide)), World.cell?_setCell_other _ _ _ _ (ne 0 2 (by decide))]; exact h2)]
  · rw [World.frozen?_setCell, World.frozen?_setCell, World.frozen?_setCell]; exact h.f j
theorem Below_set3 {a B : Nat} {w w' : World} (h : Below a w w') (hB : a ≤ B) (x y z : Value) : Below a w (((w'.setCell ⟨B, 0, none⟩ x).setCell ⟨B, 1, none⟩ y).setCell ⟨B, 2, none⟩ z) :=
  ((h.setCell (p := ⟨B, 0, none⟩) hB _).setCell (p := ⟨B, 1, none⟩) hB _).setCell (p := ⟨B, 2, none⟩) hB _
set_option maxRecDepth 10000 in
set_option maxHeartbeats 2000000 in
theorem sum_any (a : Option Addr) (cap : Nat) (v : List Tal) (w : World) (hl : v.length ≤ 1073741824) (ha : bagAt w a v) :
    Calls Tryz.prog 105 #[.slice a v.length cap] w fun e w' => e = .returned (celV (v.foldl sumT noCel)) ∧ Below w.heap.size w w' := by
  have HA : Hid (bagAt w a v) := ha
  have HS : Hid (∀ k, k < v.length → (v.take (k + 1)).foldl sumT noCel = sumT ((v.take k).foldl sumT noCel) (v.getD k default)) := fun k h => foldl_takeT _ _ v k h
  have H0 : Hid ((v.take 0).foldl sumT noCel = noCel) := rfl
  have HE : Hid ((v.take v.length).foldl sumT noCel = v.foldl sumT noCel) := by show (v.take v.length).foldl _ _ = _; rw [List.take_length]
  obtain ⟨CS, hCS⟩ : ∃ f : Nat → Cel, ∀ k, (v.take k).foldl sumT noCel = f k := ⟨_, fun _ => rfl⟩
  obtain ⟨cs, hcs⟩ : ∃ z, v.foldl sumT noCel = z := ⟨_, rfl⟩
  simp only [hCS, hcs] at HS H0 HE ⊢
  clear hCS hcs ha
  obtain ⟨n, hn⟩ : ∃ n, v.length = n := ⟨_, rfl⟩
  have HN : Hid (v.length = n) := hn
  rw [hn] at HS HE hl ⊢
  clear hn
  unfold celV
  go_enter Tryz.func105, Tryz.ntmps105
  go_wp2
  generalize hW0 : (World.alloc (World.alloc w _) _) = W0
  have hb0 : Below w.heap.size w W0 := by rw [← hW0]; exact ((Below.refl _ _).alloc (Nat.le_refl _) _).alloc (by simp) _
  have r0 : W0.cell? ⟨w.heap.size, 0, none⟩ = some (.int .i64 0) := by subst hW0; go_simp
  have r1 : W0.cell? ⟨w.heap.size, 1, none⟩ = some (.int .i64 0) := by subst hW0; go_simp
  have r2 : W0.cell? ⟨w.heap.size, 2, none⟩ = some (.string ⟨#[]⟩) := by subst hW0; go_simp
  have g0 : ∀ j, W0.frozen? ⟨w.heap.size, j, none⟩ = false := by intro j; subst hW0; go_simp
  have y0 : W0.cell? ⟨w.heap.size + 1, 0, none⟩ = some (.int .i64 0) := by subst hW0; go_simp
  have y1 : W0.cell? ⟨w.heap.size + 1, 1, none⟩ = some (.int .i64 0) := by subst hW0; go_simp
  have y2 : W0.cell? ⟨w.heap.size + 1, 2, none⟩ = some (.string ⟨#[]⟩) := by subst hW0; go_simp
  have g1 : ∀ j, W0.frozen? ⟨w.heap.size + 1, j, none⟩ = false := by intro j; subst hW0; go_simp
  have hlt0 : w.heap.size + 1 < W0.heap.size := World.block_lt_of_cell? _ _ y0
  have HB0 : Hid (Box3 (w.heap.size + 1) W0 noCel) := ⟨y0, y1, y2, g1⟩
  clear hW0 y0 y1 y2 g1
  go_loopw [8] (fun i wr => ∃ k : Nat, k ≤ n ∧ i = .int .i64 k ∧ Box3 (w.heap.size + 1) wr (CS k) ∧ Below (w.heap.size + 1) W0 wr) (fun i _ => n - (intOf i).toNat)
  case atStart => exact ⟨0, Nat.zero_le _, rfl, by rw [H0.out]; exact HB0.out, Below.refl _ _⟩
  case round =>
    obtain ⟨k, hk, rfl, hbox, hnx⟩ := hrel
    have HBX : Hid (Box3 (w.heap.size + 1) wr (CS k)) := hbox
    have hbr : Below w.heap.size w wr := hb0.trans (hnx.mono (by omega))
    have hsz := hnx.size
    have z0 := hbox.k
    have z1 := hbox.n
    have z2 := hbox.s
    have zf := hbox.f
    have c0 : wr.cell? ⟨w.heap.size, 0, none⟩ = _ := (hnx.cell (p := ⟨w.heap.size, 0, none⟩) (by show w.heap.size < _; omega)).trans r0
    have c1 : wr.cell? ⟨w.heap.size, 1, none⟩ = _ := (hnx.cell (p := ⟨w.heap.size, 1, none⟩) (by show w.heap.size < _; omega)).trans r1
    have c2 : wr.cell? ⟨w.heap.size, 2, none⟩ = _ := (hnx.cell (p := ⟨w.heap.size, 2, none⟩) (by show w.heap.size < _; omega)).trans r2
    have f0 : ∀ j, wr.frozen? ⟨w.heap.size, j, none⟩ = false := fun j => (hnx.frozen (p := ⟨w.heap.size, j, none⟩) (by show w.heap.size < _; omega)).trans (g0 j)
    clear hbox
    by_cases hlt : k < n
    · obtain ⟨b3, o3, e3, m1, m2, m3, m4⟩ := HA.out k (by rw [HN.out]; exact hlt)
      subst e3
      have p1 := cell_later hbr m1
      have p2 := cell_later hbr m2
      have p3 := cell_later hbr m3
      have p4 := cell_later hbr m4
      have hb3 : b3 < wr.heap.size := World.block_lt_of_cell? _ _ p1
      have i1 : (0 : Int) ≤ (k : Int) := by omega
      have i2 : (k : Int) < (n : Int) := by omega
      have HS1 : Hid (CS (k + 1) = sumT (CS k) (v.getD k default)) := HS.out k hlt
      unfold sumT at HS1
      have hSB : w.heap.size + 1 < wr.heap.size := World.block_lt_of_cell? _ _ z0
      have hSA : w.heap.size < wr.heap.size := by omega
      obtain ⟨⟨⟨xk, xn, xs⟩, m⟩, hx⟩ : ∃ z, v.getD k default = z := ⟨_, rfl⟩
      rw [hx] at HS1
      rw [hx] at p1 p2 p3 p4
      obtain ⟨⟨sk, sn, ss⟩, hs⟩ : ∃ z, CS k = z := ⟨_, rfl⟩
      rw [hs] at z0 z1 z2 HBX HS1
      dsimp only at p1 p2 p3 p4 z0 z1 z2 HS1
      clear hx hs m1 m2 m3 m4
      by_cases h2 : xk = 2
      · subst h2
        have HS2 : Hid (CS (k + 1) = ⟨2, wrap64 (sn + wrap64 (xn * m)), ⟨#[]⟩⟩) := by have := HS1.out; rw [if_pos rfl] at this; exact this
        clear HS1
        go_wp2
        go_roundw
        case rel => exact ⟨k + 1, by omega, by go_num, by rw [HS2.out]; exact Box3_below (Box3_set HBX.out _ _ _) ((Below.refl _ _).alloc (Nat.le_refl _) _), (Below_set3 hnx (Nat.le_refl _) _ _ _).alloc (by simp [World.setCell]; omega) _⟩
        case measure => simp [intOf]; omega
      · have h2' : (xk == 2) = false := by rw [beq_eq_false_iff_ne]; exact h2
        have HS2 : Hid (CS (k + 1) = ⟨sk, sn, ss⟩) := by have := HS1.out; rw [if_neg h2] at this; exact this
        clear HS1 h2
        go_wp2
        go_roundw
        case rel => exact ⟨k + 1, by omega, by go_num, by rw [HS2.out]; exact Box3_below HBX.out ((Below.refl _ _).alloc (Nat.le_refl _) _), hnx.alloc (by omega) _⟩
        case measure => simp [intOf]; omega
    · have hkn : k = n := by omega
      subst hkn
      have HE1 : Hid (CS k = cs) := HE.out
      go_wp2
      exact bodyPost_ret (v := .agg #[.int .i64 (CS k).k, .int .i64 (CS k).n, .string (CS k).s]) (by simp [results, Tryz.results105, go_sem, c0, c1, c2]) rfl ⟨by rw [HE1.out], Below_set3 hbr (Nat.le_refl _) _ _ _⟩
set_option maxRecDepth 10000 in
set_option maxHeartbeats 2000000 in
theorem outermost_any (a : Option Addr) (cap : Nat) (v : List Tal) (way : Int) (w : World) (hl : v.length ≤ 1073741824) (ha : bagAt w a v) :
    Calls Tryz.prog 106 #[.slice a v.length cap, .int .i64 way] w fun e w' => e = .returned (celV (v.foldl (outT way) noCel)) ∧ Below w.heap.size w w' := by
  have HA : Hid (bagAt w a v) := ha
  have HS : Hid (∀ k, k < v.length → (v.take (k + 1)).foldl (outT way) noCel = (outT way) ((v.take k).foldl (outT way) noCel) (v.getD k default)) := fun k h => foldl_takeT _ _ v k h
  have H0 : Hid ((v.take 0).foldl (outT way) noCel = noCel) := rfl
  have HE : Hid ((v.take v.length).foldl (outT way) noCel = v.foldl (outT way) noCel) := by show (v.take v.length).foldl _ _ = _; rw [List.take_length]
  obtain ⟨CS, hCS⟩ : ∃ f : Nat → Cel, ∀ k, (v.take k).foldl (outT way) noCel = f k := ⟨_, fun _ => rfl⟩
  obtain ⟨cs, hcs⟩ : ∃ z, v.foldl (outT way) noCel = z := ⟨_, rfl⟩
  simp only [hCS, hcs] at HS H0 HE ⊢
  clear hCS hcs ha
  obtain ⟨n, hn⟩ : ∃ n, v.length = n := ⟨_, rfl⟩
  have HN : Hid (v.length = n) := hn
  rw [hn] at HS HE hl ⊢
  clear hn
  unfold celV
  go_enter Tryz.func106, Tryz.ntmps106
  go_wp2
  generalize hW0 : (World.alloc (World.alloc w _) _) = W0
  have hb0 : Below w.heap.size w W0 := by rw [← hW0]; exact ((Below.refl _ _).alloc (Nat.le_refl _) _).alloc (by simp) _
  have r0 : W0.cell? ⟨w.heap.size, 0, none⟩ = some (.int .i64 0) := by subst hW0; go_simp
  have r1 : W0.cell? ⟨w.heap.size, 1, none⟩ = some (.int .i64 0) := by subst hW0; go_simp
  have r2 : W0.cell? ⟨w.heap.size, 2, none⟩ = some (.string ⟨#[]⟩) := by subst hW0; go_simp
  have g0 : ∀ j, W0.frozen? ⟨w.heap.size, j, none⟩ = false := by intro j; subst hW0; go_simp
  have y0 : W0.cell? ⟨w.heap.size + 1, 0, none⟩ = some (.int .i64 0) := by subst hW0; go_simp
  have y1 : W0.cell? ⟨w.heap.size + 1, 1, none⟩ = some (.int .i64 0) := by subst hW0; go_simp
  have y2 : W0.cell? ⟨w.heap.size + 1, 2, none⟩ = some (.string ⟨#[]⟩) := by subst hW0; go_simp
  have g1 : ∀ j, W0.frozen? ⟨w.heap.size + 1, j, none⟩ = false := by intro j; subst hW0; go_simp
  have hlt0 : w.heap.size + 1 < W0.heap.size := World.block_lt_of_cell? _ _ y0
  have HB0 : Hid (Box3 (w.heap.size + 1) W0 noCel) := ⟨y0, y1, y2, g1⟩
  clear hW0 y0 y1 y2 g1
  go_loopw [10] (fun i wr => ∃ k : Nat, k ≤ n ∧ i = .int .i64 k ∧ Box3 (w.heap.size + 1) wr (CS k) ∧ Below (w.heap.size + 1) W0 wr) (fun i _ => n - (intOf i).toNat)
  case atStart => exact ⟨0, Nat.zero_le _, rfl, by rw [H0.out]; exact HB0.out, Below.refl _ _⟩
  case round =>
    obtain ⟨k, hk, rfl, hbox, hnx⟩ := hrel
    have HBX : Hid (Box3 (w.heap.size + 1) wr (CS k)) := hbox
    have hbr : Below w.heap.size w wr := hb0.trans (hnx.mono (by omega))
    have hsz := hnx.size
    have z0 := hbox.k
    have z1 := hbox.n
    have z2 := hbox.s
    have zf := hbox.f
    have c0 : wr.cell? ⟨w.heap.size, 0, none⟩ = _ := (hnx.cell (p := ⟨w.heap.size, 0, none⟩) (by show w.heap.size < _; omega)).trans r0
    have c1 : wr.cell? ⟨w.heap.size, 1, none⟩ = _ := (hnx.cell (p := ⟨w.heap.size, 1, none⟩) (by show w.heap.size < _; omega)).trans r1
    have c2 : wr.cell? ⟨w.heap.size, 2, none⟩ = _ := (hnx.cell (p := ⟨w.heap.size, 2, none⟩) (by show w.heap.size < _; omega)).trans r2
    have f0 : ∀ j, wr.frozen? ⟨w.heap.size, j, none⟩ = false := fun j => (hnx.frozen (p := ⟨w.heap.size, j, none⟩) (by show w.heap.size < _; omega)).trans (g0 j)
    clear hbox
    by_cases hlt : k < n
    · obtain ⟨b3, o3, e3, m1, m2, m3, m4⟩ := HA.out k (by rw [HN.out]; exact hlt)
      subst e3
      have p1 := cell_later hbr m1
      have p2 := cell_later hbr m2
      have p3 := cell_later hbr m3
      have p4 := cell_later hbr m4
      have hb3 : b3 < wr.heap.size := World.block_lt_of_cell? _ _ p1
      have i1 : (0 : Int) ≤ (k : Int) := by omega
      have i2 : (k : Int) < (n : Int) := by omega
      have HS1 : Hid (CS (k + 1) = (outT way) (CS k) (v.getD k default)) := HS.out k hlt
      unfold outT at HS1
      have hSB : w.heap.size + 1 < wr.heap.size := World.block_lt_of_cell? _ _ z0
      have hSA : w.heap.size < wr.heap.size := by omega
      obtain ⟨⟨⟨xk, xn, xs⟩, m⟩, hx⟩ : ∃ z, v.getD k default = z := ⟨_, rfl⟩
      rw [hx] at HS1
      rw [hx] at p1 p2 p3 p4
      obtain ⟨⟨sk, sn, ss⟩, hs⟩ : ∃ z, CS k = z := ⟨_, rfl⟩
      rw [hs] at z0 z1 z2 HBX HS1
      dsimp only at p1 p2 p3 p4 z0 z1 z2 HS1
      clear hx hs m1 m2 m3 m4
      have KC : Hid (∀ w1, Calls Tryz.prog 124 #[.agg #[.int .i64 xk, .int .i64 xn, .string xs], .agg #[.int .i64 sk, .int .i64 sn, .string ss]] w1 fun e w' => e = .returned (.int .i64 (cmpC ⟨xk, xn, xs⟩ ⟨sk, sn, ss⟩)) ∧ Below w1.heap.size w1 w') := fun w1 => compare_any xk xn xs sk sn ss w1
      obtain ⟨cv, hcv⟩ : ∃ z, cmpC ⟨xk, xn, xs⟩ ⟨sk, sn, ss⟩ = z := ⟨_, rfl⟩
      rw [hcv] at HS1 KC
      clear hcv
      by_cases h2 : xk = 0
      · subst h2
        have HS2 : Hid (CS (k + 1) = ⟨sk, sn, ss⟩) := by have := HS1.out; rw [if_pos rfl] at this; exact this
        clear HS1 KC
        go_wp2
        go_roundw
        case rel => exact ⟨k + 1, by omega, by go_num, by rw [HS2.out]; exact Box3_below HBX.out ((Below.refl _ _).alloc (Nat.le_refl _) _), hnx.alloc (by omega) _⟩
        case measure => simp [intOf]; omega
      · have h2' : (xk == 0) = false := by rw [beq_eq_false_iff_ne]; exact h2
        have HS3 : Hid (CS (k + 1) = if sk = 0 ∨ cv = way then ⟨xk, xn, xs⟩ else ⟨sk, sn, ss⟩) := by have := HS1.out; rw [if_neg h2] at this; exact this
        clear HS1 h2
        by_cases h3 : sk = 0
        · subst h3
          have HS2 : Hid (CS (k + 1) = ⟨xk, xn, xs⟩) := by have := HS3.out; rw [if_pos (.inl rfl)] at this; exact this
          clear HS3 KC
          go_wp2
          go_roundw
          case rel => exact ⟨k + 1, by omega, by go_num, by rw [HS2.out]; exact Box3_below (Box3_set HBX.out _ _ _) ((Below.refl _ _).alloc (Nat.le_refl _) _), (Below_set3 hnx (Nat.le_refl _) _ _ _).alloc (by simp [World.setCell]; omega) _⟩
          case measure => simp [intOf]; omega
        · have h3' : (sk == 0) = false := by rw [beq_eq_false_iff_ne]; exact h3
          by_cases h4 : cv = way
          · have HS2 : Hid (CS (k + 1) = ⟨xk, xn, xs⟩) := by have := HS3.out; rw [if_pos (.inr h4)] at this; exact this
            have h4' : (cv == way) = true := by rw [beq_iff_eq]; exact h4
            clear HS3 h3 h4
            go_wp2_with (go_at_call 124; refine (KC.out _).mono ?_; rintro e w1 ⟨rfl, hb1⟩; have hbx := ((Below.refl _ _).alloc (Nat.le_refl _) _).trans (hb1.mono (by simp)); have hx0 : w1.cell? ⟨wr.heap.size, 0, none⟩ = some (.int .i64 xk) := cell_later hb1 (by go_simp); have hx1 : w1.cell? ⟨wr.heap.size, 1, none⟩ = some (.int .i64 xn) := cell_later hb1 (by go_simp); have hx2 : w1.cell? ⟨wr.heap.size, 2, none⟩ = some (.string xs) := cell_later hb1 (by go_simp); have hy0 := cell_later hbx z0; have hy1 := cell_later hbx z1; have hy2 := cell_later hbx z2; have hyf : ∀ j, w1.frozen? ⟨w.heap.size + 1, j, none⟩ = false := fun j => (hbx.frozen (p := ⟨w.heap.size + 1, j, none⟩) hSB).trans (zf j))
            go_roundw
            case rel => exact ⟨k + 1, by omega, by go_num, by rw [HS2.out]; exact Box3_set (Box3_below HBX.out hbx) _ _ _, Below_set3 (hnx.trans (hbx.mono (by omega))) (Nat.le_refl _) _ _ _⟩
            case measure => simp [intOf]; omega
          · have HS2 : Hid (CS (k + 1) = ⟨sk, sn, ss⟩) := by have := HS3.out; rw [if_neg (fun h => h.elim h3 h4)] at this; exact this
            have h4' : (cv == way) = false := by rw [beq_eq_false_iff_ne]; exact h4
            clear HS3 h3 h4
            go_wp2_with (go_at_call 124; refine (KC.out _).mono ?_; rintro e w1 ⟨rfl, hb1⟩; have hbx := ((Below.refl _ _).alloc (Nat.le_refl _) _).trans (hb1.mono (by simp)))
            go_roundw
            case rel => exact ⟨k + 1, by omega, by go_num, by rw [HS2.out]; exact Box3_below HBX.out hbx, hnx.trans (hbx.mono (by omega))⟩
            case measure => simp [intOf]; omega
    · have hkn : k = n := by omega
      subst hkn
      have HE1 : Hid (CS k = cs) := HE.out
      go_wp2
      exact bodyPost_ret (v := .agg #[.int .i64 (CS k).k, .int .i64 (CS k).n, .string (CS k).s]) (by simp [results, Tryz.results106, go_sem, c0, c1, c2]) rfl ⟨by rw [HE1.out], Below_set3 hbr (Nat.le_refl _) _ _ _⟩
set_option maxRecDepth 10000 in
set_option maxHeartbeats 2000000 in
theorem of_any (fn n : Int) (a : Option Addr) (cap : Nat) (v : List Tal) (w : World) (hl : v.length ≤ 1073741824) (ha : bagAt w a v) (hag : 1 ≤ fn ∧ fn ≤ 4) :
    Calls Tryz.prog 57 #[.int .i64 fn, .int .i64 n, .slice a v.length cap] w fun e w' => e = .returned (celV (figT fn n v)) ∧ Below w.heap.size w w' := by
  have K2 : Hid (∀ w1, Below w.heap.size w w1 → Calls Tryz.prog 105 #[.slice a v.length cap] w1 fun e w' => e = .returned (celV (v.foldl sumT noCel)) ∧ Below w1.heap.size w1 w') := fun w1 hb => sum_any a cap v w1 hl (bagAt_below ha hb)
  have K3 : Hid (∀ way w1, Below w.heap.size w w1 → Calls Tryz.prog 106 #[.slice a v.length cap, .int .i64 way] w1 fun e w' => e = .returned (celV (v.foldl (outT way) noCel)) ∧ Below w1.heap.size w1 w') := fun way w1 hb => outermost_any a cap v way w1 hl (bagAt_below ha hb)
  unfold figT
  obtain ⟨⟨sk, sn, ss⟩, e2⟩ : ∃ z, v.foldl sumT noCel = z := ⟨_, rfl⟩
  obtain ⟨⟨ak, an, az⟩, e3⟩ : ∃ z, v.foldl (outT (-1)) noCel = z := ⟨_, rfl⟩
  obtain ⟨⟨bk, bn, bs⟩, e4⟩ : ∃ z, v.foldl (outT 1) noCel = z := ⟨_, rfl⟩
  have K4 : Hid (∀ w1, Below w.heap.size w w1 → Calls Tryz.prog 106 #[.slice a v.length cap, .int .i64 (-1)] w1 fun e w' => e = .returned (celV ⟨ak, an, az⟩) ∧ Below w1.heap.size w1 w') := fun w1 hb => by
    have := K3.out (-1) w1 hb
    rwa [e3] at this
  have K5 : Hid (∀ w1, Below w.heap.size w w1 → Calls Tryz.prog 106 #[.slice a v.length cap, .int .i64 1] w1 fun e w' => e = .returned (celV ⟨bk, bn, bs⟩) ∧ Below w1.heap.size w1 w') := fun w1 hb => by
    have := K3.out 1 w1 hb
    rwa [e4] at this
  rw [e2] at K2 ⊢
  rw [e3, e4]
  clear K3 e2 e3 e4 ha hl
  obtain ⟨q, hq⟩ : ∃ n, v.length = n := ⟨_, rfl⟩
  rw [hq] at K2 K4 K5 ⊢
  clear hq
  unfold celV at K2 K4 K5 ⊢
  dsimp only at K2 K4 K5
  have h4 : fn = 1 ∨ fn = 2 ∨ fn = 3 ∨ fn = 4 := by omega
  have hba : ∀ o1, Below w.heap.size w (w.alloc o1) := fun o1 => (Below.refl _ _).alloc (Nat.le_refl _) _
  rcases h4 with rfl | rfl | rfl | rfl
  · rw [if_pos rfl]
    dsimp only
    clear K2 K4 K5 hag
    go_enter Tryz.func57, Tryz.ntmps57
    go_wp2
    exact bodyPost_ret (v := .agg #[.int .i64 2, .int .i64 n, .string ⟨#[]⟩]) (by simp [results, Tryz.results57, go_sem]) rfl ⟨rfl, hba _⟩
  · rw [if_neg (by decide), if_pos rfl]
    dsimp only
    clear K4 K5 hag
    go_enter Tryz.func57, Tryz.ntmps57
    go_wp2_with fail
    refine (K2.out _ (hba _)).mono ?_
    rintro e w1 ⟨rfl, hb1⟩
    have hbn : Below w.heap.size w w1 := (hba _).trans (hb1.mono (by simp))
    have z0 : w1.cell? ⟨w.heap.size, 0, none⟩ = some (.int .i64 0) := cell_later hb1 (by go_simp)
    have z1 : w1.cell? ⟨w.heap.size, 1, none⟩ = some (.int .i64 0) := cell_later hb1 (by go_simp)
    have z2 : w1.cell? ⟨w.heap.size, 2, none⟩ = some (.string ⟨#[]⟩) := cell_later hb1 (by go_simp)
    have zf : ∀ j, w1.frozen? ⟨w.heap.size, j, none⟩ = false := fun j => (hb1.frozen (p := ⟨w.heap.size, j, none⟩) (by simp)).trans (by go_simp)
    go_wp2
    exact bodyPost_ret (v := .agg #[.int .i64 sk, .int .i64 sn, .string ss]) (by simp [results, Tryz.results57, go_sem, z0, z1, z2]) rfl ⟨rfl, Below_set3 hbn (Nat.le_refl _) _ _ _⟩
  · rw [if_neg (by decide), if_neg (by decide), if_pos rfl]
    dsimp only
    clear K2 K5 hag
    go_enter Tryz.func57, Tryz.ntmps57
    go_wp2_with fail
    refine (K4.out _ (hba _)).mono ?_
    rintro e w1 ⟨rfl, hb1⟩
    have hbn : Below w.heap.size w w1 := (hba _).trans (hb1.mono (by simp))
    have z0 : w1.cell? ⟨w.heap.size, 0, none⟩ = some (.int .i64 0) := cell_later hb1 (by go_simp)
    have z1 : w1.cell? ⟨w.heap.size, 1, none⟩ = some (.int .i64 0) := cell_later hb1 (by go_simp)
    have z2 : w1.cell? ⟨w.heap.size, 2, none⟩ = some (.string ⟨#[]⟩) := cell_later hb1 (by go_simp)
    have zf : ∀ j, w1.frozen? ⟨w.heap.size, j, none⟩ = false := fun j => (hb1.frozen (p := ⟨w.heap.size, j, none⟩) (by simp)).trans (by go_simp)
    go_wp2
    exact bodyPost_ret (v := .agg #[.int .i64 ak, .int .i64 an, .string az]) (by simp [results, Tryz.results57, go_sem, z0, z1, z2]) rfl ⟨rfl, Below_set3 hbn (Nat.le_refl _) _ _ _⟩
  · rw [if_neg (by decide), if_neg (by decide), if_neg (by decide)]
    dsimp only
    clear K2 K4 hag
    go_enter Tryz.func57, Tryz.ntmps57
    go_wp2_with fail
    refine (K5.out _ (hba _)).mono ?_
    rintro e w1 ⟨rfl, hb1⟩
    have hbn : Below w.heap.size w w1 := (hba _).trans (hb1.mono (by simp))
    have z0 : w1.cell? ⟨w.heap.size, 0, none⟩ = some (.int .i64 0) := cell_later hb1 (by go_simp)
    have z1 : w1.cell? ⟨w.heap.size, 1, none⟩ = some (.int .i64 0) := cell_later hb1 (by go_simp)
    have z2 : w1.cell? ⟨w.heap.size, 2, none⟩ = some (.string ⟨#[]⟩) := cell_later hb1 (by go_simp)
    have zf : ∀ j, w1.frozen? ⟨w.heap.size, j, none⟩ = false := fun j => (hb1.frozen (p := ⟨w.heap.size, j, none⟩) (by simp)).trans (by go_simp)
    go_wp2
    exact bodyPost_ret (v := .agg #[.int .i64 bk, .int .i64 bn, .string bs]) (by simp [results, Tryz.results57, go_sem, z0, z1, z2]) rfl ⟨rfl, Below_set3 hbn (Nat.le_refl _) _ _ _⟩
/-- tallies of one's own -/
def talCells (l : List Tal) : List Value := l.flatMap fun t => [.int .i64 t.1.k, .int .i64 t.1.n, .string t.1.s, .int .i64 t.2]
theorem talCells_app (l : List Tal) (t : Tal) : talCells (l ++ [t]) = talCells l ++ [.int .i64 t.1.k, .int .i64 t.1.n, .string t.1.s, .int .i64 t.2] := by simp [talCells]
theorem talCells_at : ∀ (l : List Tal) (i : Nat), i < l.length → (talCells l)[i * 4]? = some (.int .i64 (l.getD i default).1.k) ∧ (talCells l)[i * 4 + 1]? = some (.int .i64 (l.getD i default).1.n) ∧ (talCells l)[i * 4 + 2]? = some (.string (l.getD i default).1.s) ∧ (talCells l)[i * 4 + 3]? = some (.int .i64 (l.getD i default).2)
  | [], i, h => absurd h (Nat.not_lt_zero i)
  | t :: l, 0, _ => ⟨rfl, rfl, rfl, rfl⟩
  | t :: l, i + 1, h => by
    have ih := talCells_at l i (by simpa using h)
    have e1 : talCells (t :: l) = .int .i64 t.1.k :: .int .i64 t.1.n :: .string t.1.s :: .int .i64 t.2 :: talCells l := rfl
    rw [e1, show (i + 1) * 4 = i * 4 + 1 + 1 + 1 + 1 by omega, show i * 4 + 1 + 1 + 1 + 1 + 1 = (i * 4 + 1) + 1 + 1 + 1 + 1 by omega, show i * 4 + 1 + 1 + 1 + 1 + 2 = (i * 4 + 2) + 1 + 1 + 1 + 1 by omega, show i * 4 + 1 + 1 + 1 + 1 + 3 = (i * 4 + 3) + 1 + 1 + 1 + 1 by omega]
    simp only [List.getElem?_cons_succ, List.getD_cons_succ]
    exact ih
def ownT (w : World) (base : Nat) (v : Value) (l : List Tal) : Prop := w.ownsRow base 82 4 v l.length (talCells l)
theorem ownT_at {w : World} {base : Nat} {ad : Option Addr} {n cap : Nat} {l : List Tal} (h : ownT w base (.slice ad n cap) l) : bagAt w ad l ∧ n = l.length := by
  obtain ⟨ad', cap', hv, hg⟩ := own_form h
  injection hv with ha hn hc
  subst ha hc
  refine ⟨fun i hi => ?_, hn⟩
  obtain ⟨g, rfl⟩ := hg (by omega)
  obtain ⟨x1, x2, x3, x4⟩ := talCells_at l i hi
  refine ⟨g, 0, rfl, ?_, ?_, ?_, ?_⟩
  · have := World.ownsRow.cells h (g := g) rfl _ _ x1; rwa [add_off] at this
  · have := World.ownsRow.cells h (g := g) rfl _ _ x2; rw [add_off] at this; rw [Nat.add_assoc]; exact this
  · have := World.ownsRow.cells h (g := g) rfl _ _ x3; rw [add_off] at this; rw [Nat.add_assoc]; exact this
  · have := World.ownsRow.cells h (g := g) rfl _ _ x4; rw [add_off] at this; rw [Nat.add_assoc]; exact this
theorem infoT : (Tryz.prog.info? 82).map (fun i => (i.zero, i.size, i.bytes)) = some (some (.agg #[.int .i64 0, .int .i64 0, .string ⟨#[]⟩, .int .i64 0]), 4, 40) := by kernel_rfl
theorem cell_four_new (w : World) (a b c d : Value) (t : TypeId) : ∀ j u, [a, b, c, d][j]? = some u → (w.alloc (.cells #[a, b, c, d] t)).cell? ((⟨w.heap.size, 0, none⟩ : Addr).add j) = some u := by
  intro j u hu
  rw [add_off]
  match j, hu with
  | 0, hu => simp at hu; subst hu; go_simp
  | 1, hu => simp at hu; subst hu; go_simp
  | 2, hu => simp at hu; subst hu; go_simp
  | 3, hu => simp at hu; subst hu; go_simp
theorem step_appT {ops : Array Oper} {o : Oper} {a : Act} {K : Act → World → Prop} {Q : Exit → Act → World → Prop} {E : Prop} (hgd : o.guard = none) (s x : Operand)
    (hop : o.op = .call { callee := .builtin .append, args := #[s, x], argTypes := #[61, 61] })
    (base : Nat) (v : Value) (L : List Tal) (k n : Int) (z : ByteArray) (m : Int) (w1 : World) (ln : Nat) (hln : L.length = ln) (ho : ownT w1 base v L) (hl : ln ≤ 1073741824) (hb : base ≤ w1.heap.size)
    (hs : a.eval s = v) (hx : a.eval x = .slice (some ⟨w1.heap.size, 0, none⟩) 1 1)
    (h : ∀ g cap2 w2, ownT w2 base (.slice (some ⟨g, 0, none⟩) (ln + 1) cap2) (L ++ [(⟨k, n, z⟩, m)]) → (w1.alloc (.cells #[.int .i64 k, .int .i64 n, .string z, .int .i64 m] 82)).grownBy w2 v.ownBlock → K (a.put o.dst (.slice (some ⟨g, 0, none⟩) (ln + 1) cap2)) w2) :
    if Region.wanted o (yielded ops a.tmps) = true then Oper.wp Tryz.prog o a (w1.alloc (.cells #[.int .i64 k, .int .i64 n, .string z, .int .i64 m] 82)) K Q else E := by
  obtain ⟨i0, hi, hz0, hz1, hz2⟩ := info_parts infoT
  unfold ownT at ho
  rw [hln] at ho
  exact step_append_lies _ hgd s x 61 hop base 82 i0 (.agg #[.int .i64 0, .int .i64 0, .string ⟨#[]⟩, .int .i64 0]) 4 40 Tryz.underlying61 hi hz0 hz1 hz2 rfl (by decide) v ln (talCells L) hs
    (ho.alloc _) ⟨w1.heap.size, 0, none⟩ 1 1 [.int .i64 k, .int .i64 n, .string z, .int .i64 m] hx rfl (cell_four_new _ _ _ _ _ _) (by intro u hu; simp at hu; rcases hu with rfl | rfl | rfl | rfl <;> rfl) (by decide) (by unfold maxLen; omega) (by omega) (by simp; omega) (w1.heap.size + 1) (by simp) (fun g cap2 w2 h1 h2 h3 h4 => h g cap2 w2 (by
      unfold ownT
      rw [talCells_app, List.length_append, hln]
      exact h1) h2)
set_option maxRecDepth 10000 in
set_option maxHeartbeats 4000000 in
theorem figure_any (a : Option Addr) (cap : Nat) (v : List ch.Cnt) (ag : Int × Int) (w : World) (hl : v.length ≤ 1073741824) (ha : ch.viewAt w a v) (hag : 1 ≤ ag.1 ∧ ag.1 ≤ 4) (hc : 0 ≤ ag.2 ∧ ∀ c ∈ v, ag.2.toNat < c.r.length) (hcl : ∀ c ∈ v, c.r.length ≤ 9223372036854775807) :
    Calls Tryz.prog 56 #[.agg #[.int .i64 ag.1, .int .i64 ag.2], .slice a v.length cap] w fun e w' => e = .returned (celV (figC ag v)) ∧ Below w.heap.size w w' := by
  have HA : Hid (ch.viewAt w a v) := ha
  have HC : Hid (∀ k, k < v.length → ag.2.toNat < (v.getD k default).r.length ∧ (v.getD k default).r.length ≤ 9223372036854775807) := fun k h => ⟨hc.2 _ (getD_mem h), hcl _ (getD_mem h)⟩
  have HS : Hid (∀ k, k < v.length → cntS (v.take (k + 1)) = wrap64 (cntS (v.take k) + (v.getD k default).n)) := fun k h => foldl_take _ _ v k h
  have H0 : Hid (cntS (v.take 0) = 0) := rfl
  have HE : Hid (cntS (v.take v.length) = cntS v) := by show cntS _ = _; rw [List.take_length]
  have HBS : Hid (∀ k, k < v.length → bagOf ag.2.toNat (v.take (k + 1)) = bagOf ag.2.toNat (v.take k) ++ [((v.getD k default).r.getD ag.2.toNat default, (v.getD k default).n)]) := fun k h => by
    show bagOf _ _ = _
    rw [take_c v k h]; simp [bagOf]
  have HB0 : Hid (bagOf ag.2.toNat (v.take 0) = []) := rfl
  have HBE : Hid (bagOf ag.2.toNat (v.take v.length) = bagOf ag.2.toNat v) := by show bagOf _ _ = _; rw [List.take_length]
  have HBL : Hid (∀ k, k ≤ v.length → (bagOf ag.2.toNat (v.take k)).length = k) := fun k h => by show (bagOf _ _).length = k; unfold bagOf; rw [List.length_map, List.length_take]; omega
  have KO : Hid (∀ bag ca w1, bagAt w1 bag (bagOf ag.2.toNat v) → Calls Tryz.prog 57 #[.int .i64 ag.1, .int .i64 (cntS v), .slice bag v.length ca] w1 fun e w' => e = .returned (celV (figC ag v)) ∧ Below w1.heap.size w1 w') := fun bag ca w1 h1 => by
    have hle : (bagOf ag.2.toNat v).length = v.length := by unfold bagOf; rw [List.length_map]
    have := of_any ag.1 (cntS v) bag ca (bagOf ag.2.toNat v) w1 (by rw [hle]; exact hl) h1 hag
    rw [figT_of, hle] at this
    exact this
  obtain ⟨hc0, _⟩ := hc
  obtain ⟨fn, col⟩ := ag
  dsimp only at HC HBS HB0 HBE HBL KO hc0 ⊢
  obtain ⟨cl, rfl⟩ := Int.eq_ofNat_of_zero_le hc0
  simp only [Int.toNat_natCast] at HC HBS HB0 HBE HBL KO
  obtain ⟨CS, hCS⟩ : ∃ f : Nat → Int, ∀ k, cntS (v.take k) = f k := ⟨_, fun _ => rfl⟩
  obtain ⟨BS, hBS⟩ : ∃ f : Nat → List Tal, ∀ k, bagOf cl (v.take k) = f k := ⟨_, fun _ => rfl⟩
  obtain ⟨cs, hcs⟩ : ∃ z, cntS v = z := ⟨_, rfl⟩
  obtain ⟨bs, hbs⟩ : ∃ z, bagOf cl v = z := ⟨_, rfl⟩
  obtain ⟨⟨fk, fc, fs⟩, hfc⟩ : ∃ z, figC (fn, (cl : Int)) v = z := ⟨_, rfl⟩
  simp only [hCS, hcs] at HS H0 HE
  simp only [hBS, hbs] at HBS HB0 HBE HBL
  rw [hcs, hfc] at KO
  rw [hbs] at KO
  rw [hfc]
  clear hCS hBS hcs hbs hfc ha hc0 hag hcl
  obtain ⟨n, hn⟩ : ∃ n, v.length = n := ⟨_, rfl⟩
  have HN : Hid (v.length = n) := hn
  rw [hn] at HS HE hl HC HBS HBE HBL KO ⊢
  clear hn
  unfold celV at KO ⊢
  dsimp only at KO ⊢
  obtain ⟨W1, hW1⟩ : ∃ z, (w.alloc (.cells #[.int .i64 fn, .int .i64 (cl : Int)] 60)).alloc (.cells #[.int .i64 0, .int .i64 0, .string ⟨#[]⟩] 68) = z := ⟨_, rfl⟩
  have hb1 : Below w.heap.size w W1 := by rw [← hW1]; exact ((Below.refl _ _).alloc (Nat.le_refl _) _).alloc (by simp) _
  have hs1 : W1.heap.size = w.heap.size + 2 := by rw [← hW1]; simp
  have a0 : W1.cell? ⟨w.heap.size, 0, none⟩ = some (.int .i64 fn) := by subst hW1; go_simp
  have a1 : W1.cell? ⟨w.heap.size, 1, none⟩ = some (.int .i64 (cl : Int)) := by subst hW1; go_simp
  have r0 : W1.cell? ⟨w.heap.size + 1, 0, none⟩ = some (.int .i64 0) := by subst hW1; go_simp
  have r1 : W1.cell? ⟨w.heap.size + 1, 1, none⟩ = some (.int .i64 0) := by subst hW1; go_simp
  have r2 : W1.cell? ⟨w.heap.size + 1, 2, none⟩ = some (.string ⟨#[]⟩) := by subst hW1; go_simp
  have rf : ∀ j, W1.frozen? ⟨w.heap.size + 1, j, none⟩ = false := by intro j; subst hW1; go_simp
  obtain ⟨i0, hi, hz0, hz1, hz2⟩ := info_parts infoT
  obtain ⟨w0, hmk, hown0, hgrow0⟩ := run_make_own (P := Tryz.prog) W1 W1.heap.size 61 82 i0 (.agg #[.int .i64 0, .int .i64 0, .string ⟨#[]⟩, .int .i64 0]) 4 Tryz.underlying61 hi hz0 hz1 .i64 .i64 n (by rw [hz2]; omega) (by unfold maxLen; omega) (Nat.le_refl _)
  have hb0 : Below W1.heap.size W1 w0 := (Below.refl _ _).grown hgrow0 (Nat.le_refl _) (fun b hb => by cases hb)
  have HO0 : Hid (ownT w0 W1.heap.size (.slice (some ⟨W1.heap.size, 0, none⟩) 0 n) []) := hown0
  clear hi hz0 hz1 hz2 hown0 hgrow0
  go_enter Tryz.func56, Tryz.ntmps56
  go_wp2
  clear hW1
  go_loopw [5, 6, 8, 14] (fun s v _ i wr => ∃ k : Nat, k ≤ n ∧ i = .int .i64 k ∧ s = .int .i64 (CS k) ∧ ownT wr W1.heap.size v (BS k) ∧ Below W1.heap.size W1 wr) (fun _ _ _ i _ => n - (intOf i).toNat)
  case atStart => exact ⟨0, Nat.zero_le _, rfl, by rw [H0.out], by rw [HB0.out, ← hs1]; exact HO0.out, hb0⟩
  case round =>
    obtain ⟨k, hk, rfl, rfl, hov, hnx⟩ := hrel
    have HO : Hid (ownT wr W1.heap.size u6 (BS k)) := hov
    have hbr : Below w.heap.size w wr := hb1.trans (hnx.mono hb1.size)
    have hsz := hnx.size
    have c0 := cell_later hnx a0
    have c1 := cell_later hnx a1
    clear hov hmk
    by_cases hlt : k < n
    · obtain ⟨b, o, ra, rc, e, x1, x2, x3⟩ := HA.out k (by rw [HN.out]; exact hlt)
      subst e
      obtain ⟨hcol, hrl⟩ := HC.out k hlt
      obtain ⟨b3, o3, e3, m1, m2, m3⟩ := x2 cl hcol
      subst e3
      have q1 := cell_later hbr x1
      have q3 := cell_later hbr x3
      have p1 := cell_later hbr m1
      have p2 := cell_later hbr m2
      have p3 : wr.cell? ⟨b3, o3 + cl * 3 + 2, none⟩ = _ := cell_later hbr m3
      have hb3 : b3 < wr.heap.size := World.block_lt_of_cell? _ _ p1
      have hw3 : w.heap.size < wr.heap.size := World.block_lt_of_cell? _ _ c0
      have i1 : (0 : Int) ≤ (k : Int) := by omega
      have i2 : (k : Int) < (n : Int) := by omega
      have j1 : (0 : Int) ≤ (cl : Int) := by omega
      have j2 : (cl : Int) < ((v.getD k default).r.length : Int) := by omega
      have HS1 : Hid (CS (k + 1) = wrap64 (CS k + (v.getD k default).n)) := HS.out k hlt
      have HB1 : Hid (BS (k + 1) = BS k ++ [((v.getD k default).r.getD cl default, (v.getD k default).n)]) := HBS.out k hlt
      have HL1 : Hid ((BS k).length = k) := HBL.out k hk
      obtain ⟨m, hm⟩ : ∃ z, (v.getD k default).n = z := ⟨_, rfl⟩
      obtain ⟨⟨xk, xn, xs⟩, hx⟩ : ∃ z, (v.getD k default).r.getD cl default = z := ⟨_, rfl⟩
      obtain ⟨rl, hrl'⟩ : ∃ z, (v.getD k default).r.length = z := ⟨_, rfl⟩
      rw [hm] at HS1 q3 HB1
      rw [hx] at p1 p2 p3 HB1
      rw [hrl'] at q1 j2
      dsimp only at p1 p2 p3
      clear hm hx hrl' x1 x2 x3 m1 m2 m3 hcol hrl
      go_wp2
      generalize hX : (World.alloc wr _) = X
      have hbX : Below wr.heap.size wr X := by rw [← hX]; exact (Below.refl _ _).alloc (Nat.le_refl _) _
      have hsX : X.heap.size = wr.heap.size + 1 := by rw [← hX]; simp
      have y0 : X.cell? ⟨wr.heap.size, 0, none⟩ = some (.slice (some ⟨b3, o3, none⟩) rl rc) := by subst hX; go_simp
      have y1 : X.cell? ⟨wr.heap.size, 1, none⟩ = some (.int .i64 m) := by subst hX; go_simp
      have z1 := cell_later hbX c1
      have v1 := cell_later hbX p1
      have v2 := cell_later hbX p2
      have v3 := cell_later hbX p3
      have lX : wr.heap.size < X.heap.size := by omega
      have lw : w.heap.size < X.heap.size := by omega
      have lb3 : b3 < X.heap.size := by omega
      have HOX : Hid (∀ w1, Below X.heap.size X w1 → ownT w1 W1.heap.size u6 (BS k)) := fun w1 hb => own_stay (own_stay HO.out hbX) hb
      have hle : W1.heap.size ≤ X.heap.size := by omega
      have hbx2 : Below W1.heap.size W1 X := hnx.trans (hbX.mono hnx.size)
      clear hX hsX c0 c1 p1 p2 p3 q1 q3
      go_region_law (refine step_appT (by rfl) (.tmp 22) (.tmp 32) (by rfl) W1.heap.size u6 (BS k) xk xn xs m X.drew k HL1.out (HOX.out _ (Below.refl _ _).drew) (by omega) (by simpa using hle) (by simp [Act.eval, Act.put]) (by simp [Act.eval, Act.put]) ?_; intro g2 cap2 w2 hown2 hgrow2)
      all_goals
        have hbn : Below W1.heap.size W1 w2 := ((hbx2.drew).alloc hbx2.size _).grown hgrow2 (by have := hbx2.size; simp; omega) (fun b hb => (World.ownsRow.lt HO.out b hb).1)
        go_wp2
        go_roundw
        case rel => exact ⟨k + 1, by omega, by go_num, by rw [HS1.out], by rw [HB1.out]; exact hown2, hbn⟩
        case measure => simp [intOf]; omega
    · have hkn : k = n := by omega
      subst hkn
      have HE1 : Hid (CS k = cs) := HE.out
      have HE2 : Hid (BS k = bs) := HBE.out
      have HL1 : Hid ((BS k).length = k) := HBL.out k (Nat.le_refl _)
      obtain ⟨ad2, c2, hv, _⟩ := own_form HO.out
      rw [HL1.out] at hv
      subst hv
      have HBA : Hid (bagAt wr ad2 bs) := by have := (ownT_at HO.out).1; rw [HE2.out] at this; exact this
      rw [HE1.out]
      have z0 := cell_later hnx r0
      have z1 := cell_later hnx r1
      have z2 := cell_later hnx r2
      have zf : ∀ j, wr.frozen? ⟨w.heap.size + 1, j, none⟩ = false := fun j => (hnx.frozen (p := ⟨w.heap.size + 1, j, none⟩) (by show w.heap.size + 1 < _; omega)).trans (rf j)
      have hlz : w.heap.size + 1 < wr.heap.size := World.block_lt_of_cell? _ _ z0
      go_wp2_with fail
      refine (KO.out _ _ _ HBA.out).mono ?_
      rintro e w2 ⟨rfl, hb2⟩
      have hbn : Below w.heap.size w w2 := hbr.trans (hb2.mono hbr.size)
      replace z0 := cell_later hb2 z0
      replace z1 := cell_later hb2 z1
      replace z2 := cell_later hb2 z2
      have zf2 : ∀ j, w2.frozen? ⟨w.heap.size + 1, j, none⟩ = false := fun j => (hb2.frozen (p := ⟨w.heap.size + 1, j, none⟩) hlz).trans (zf j)
      clear zf
      go_wp2
      exact bodyPost_ret (v := .agg #[.int .i64 fk, .int .i64 fc, .string fs]) (by simp [results, Tryz.results56, go_sem, z0, z1, z2]) rfl ⟨rfl, Below_set3 hbn (by omega) _ _ _⟩
end Go.Proofs.YtbfbgdinhiglaaaGreat.bt

/- A map of lists of rows, by where the lists lie; and what it holds while a view is grouped. -/
namespace Go.Proofs.YtbfbgdinhiglaaaGreat.bt
open Go.ChangeShapes Go.WideShapes Go.ChangeAt Go.RowKit Go.Maps Go.WideMaps
open vl pl
set_option linter.unusedVariables false
set_option linter.unusedSimpArgs false
/-- two numbers as one -/
def pr (a b : Nat) : Nat := (a + b) * (a + b) + a
theorem pr_inj {a b c d : Nat} (h : pr a b = pr c d) : a = c ∧ b = d := by
  unfold pr at h
  have key : ∀ s t x y : Nat, x ≤ s → s * s + x = t * t + y → ¬ s < t := by
    intro s t x y hx h1 h2
    have h3 : (s + 1) * (s + 1) ≤ t * t := Nat.mul_self_le_mul_self h2
    have h4 : (s + 1) * (s + 1) = s * s + s + s + 1 := by
      rw [Nat.add_mul, Nat.mul_add, Nat.one_mul, Nat.mul_one]; omega
    omega
  have h1 := key (a + b) (c + d) a c (by omega) h
  have h2 := key (c + d) (a + b) c a (by omega) h.symm
  have h3 : a + b = c + d := by omega
  rw [h3] at h
  omega
/-- where a slice of one's own lies, as a number -/
def hElem : Value → Option (DataW Unit × List MemPlace)
  | .slice none 0 0 => some (.lit (.int .i64 0), [])
  | .slice (some ⟨g, 0, none⟩) n cap => some (.lit (.int .i64 ((pr (pr g n) cap : Nat) + 1)), [])
  | _ => none
def isAt (v : Value) (n : Int) : Prop := hElem v = some (.lit (.int .i64 n), [])
theorem isAt_some (g n cap : Nat) : isAt (.slice (some ⟨g, 0, none⟩) n cap) ((pr (pr g n) cap : Nat) + 1) := rfl
theorem isAt_cases {v : Value} {d : DataW Unit} {ps : List MemPlace} (h : hElem v = some (d, ps)) : (v = .slice none 0 0 ∧ d = .lit (.int .i64 0)) ∨ ∃ g n cap, v = .slice (some ⟨g, 0, none⟩) n cap ∧ d = .lit (.int .i64 ((pr (pr g n) cap : Nat) + 1)) := by
  unfold hElem at h
  split at h
  · simp only [Option.some.injEq, Prod.mk.injEq] at h
    exact .inl ⟨rfl, h.1.symm⟩
  · rename_i g n cap
    simp only [Option.some.injEq, Prod.mk.injEq] at h
    exact .inr ⟨g, n, cap, rfl, h.1.symm⟩
  · cases h
theorem isAt_zero {v : Value} (h : isAt v 0) : v = .slice none 0 0 := by
  rcases isAt_cases h with ⟨h1, _⟩ | ⟨g, n, cap, _, h2⟩
  · exact h1
  · injection h2 with h2; injection h2 with _ h2; omega
theorem isAt_inj {v u : Value} {n : Int} (h : isAt v n) (k : isAt u n) : v = u := by
  rcases isAt_cases h with ⟨h1, h2⟩ | ⟨g, m, cap, h1, h2⟩ <;> rcases isAt_cases k with ⟨k1, k2⟩ | ⟨g', m', cap', k1, k2⟩
  · rw [h1, k1]
  · injection h2 with h2; injection h2 with _ h2
    injection k2 with k2; injection k2 with _ k2
    omega
  · injection h2 with h2; injection h2 with _ h2
    injection k2 with k2; injection k2 with _ k2
    omega
  · injection h2 with h2; injection h2 with _ h2
    injection k2 with k2; injection k2 with _ k2
    have e : pr (pr g m) cap = pr (pr g' m') cap' := by omega
    obtain ⟨e1, e2⟩ := pr_inj e
    obtain ⟨e3, e4⟩ := pr_inj e1
    rw [h1, k1, e2, e3, e4]
/-- v is a list of these rows, of one's own; the rows' cells lie in W0 -/
def GR (W0 : World) (base : Nat) (wr : World) (v : Value) (l : List ch.Cnt) : Prop :=
  ∃ L : ch.PL, wr.ownsRow base 71 2 v L.length (ch.flatP L) ∧ ch.outOf L = l ∧ ∀ p ∈ L, ∃ ad cap, p.1 = .slice ad p.2.r.length cap ∧ vl.rowAt W0 ad p.2.r
theorem GR_nil (W0 : World) (base : Nat) (wr : World) : GR W0 base wr (.slice none 0 0) [] := ⟨[], World.ownsRow_nil _ _ _ _, rfl, fun p hp => by cases hp⟩
theorem GR_keep {W0 wr w' : World} {base : Nat} {v : Value} {l : List ch.Cnt} (h : GR W0 base wr v l) (hb : ∀ g, v.ownBlock = some g → w'.heap[g]? = wr.heap[g]?) : GR W0 base w' v l := by
  obtain ⟨L, h1, h2, h3⟩ := h
  exact ⟨L, ch.own_same h1 hb, h2, h3⟩
theorem GR_lt {W0 wr : World} {base : Nat} {v : Value} {l : List ch.Cnt} (h : GR W0 base wr v l) {g : Nat} (hg : v.ownBlock = some g) : base ≤ g ∧ g < wr.heap.size := by
  obtain ⟨L, h1, _⟩ := h
  exact ch.own_lt h1 hg
theorem GR_view {W0 wr : World} {base : Nat} {v : Value} {l : List ch.Cnt} (h : GR W0 base wr v l) (hb : Below W0.heap.size W0 wr) : ∃ ad cap, v = .slice ad l.length cap ∧ ch.viewAt wr ad l := by
  obtain ⟨L, h1, rfl, h3⟩ := h
  obtain ⟨ad, cap, e, hg⟩ := ch.row_form h1
  subst e
  refine ⟨ad, cap, by rw [ch.out_len], fun i hi => ?_⟩
  rw [ch.out_len] at hi
  obtain ⟨g, rfl⟩ := hg (by omega)
  have hp := List.getElem_mem hi
  obtain ⟨ra, rc, e1, e2⟩ := h3 L[i] hp
  rw [ch.out_at L i L[i] (List.getElem?_eq_getElem hi)]
  have hf := ch.flatP_at L i L[i] (List.getElem?_eq_getElem hi)
  have c1 := World.ownsRow.cells h1 (g := g) rfl (i * 2) _ hf.1
  have c2 := World.ownsRow.cells h1 (g := g) rfl (i * 2 + 1) _ hf.2
  rw [ch.addr_add] at c1 c2
  rw [e1] at c1
  refine ⟨g, 0, ra, rc, rfl, c1, rowAt_below e2 hb, ?_⟩
  rw [Nat.add_assoc]
  exact c2
/-- the rows of a key -/
def ofKey (kf : ch.Cnt → List UInt8) (vs : List ch.Cnt) (k : List UInt8) : List ch.Cnt := vs.filter fun c => kf c == k
theorem ofKey_snoc (kf : ch.Cnt → List UInt8) (vs : List ch.Cnt) (c : ch.Cnt) (k : List UInt8) : ofKey kf (vs ++ [c]) k = ofKey kf vs k ++ (if kf c = k then [c] else []) := by
  unfold ofKey
  rw [List.filter_append]
  by_cases h : kf c = k <;> simp [h]
structure GS (W0 : World) (base : Nat) (wr : World) (B nn : Nat) (kf : ch.Cnt → List UInt8) (vs : List ch.Cnt) (kv : ch.KV) : Prop where
  map : wr.ownsMap Tryz.prog 9 hElem B nn (ch.toD kv)
  up : ch.rising kv
  lowB : B < base
  low : base ≤ wr.heap.size
  each : ∀ p ∈ kv, p.2 ≠ 0 ∧ ∃ v, isAt v p.2 ∧ GR W0 base wr v (ofKey kf vs p.1) ∧ ofKey kf vs p.1 ≠ []
  all : ∀ c ∈ vs, ∃ p ∈ kv, p.1 = kf c
  apart : ∀ p ∈ kv, ∀ q ∈ kv, p.1 ≠ q.1 → ∀ v u, isAt v p.2 → isAt u q.2 → ∀ g, v.ownBlock = some g → u.ownBlock ≠ some g
theorem GS_start (w W0 : World) (kf : ch.Cnt → List UInt8) : GS W0 (w.heap.size + 1) (w.alloc (.map #[] 0)) w.heap.size 0 kf [] [] :=
  ⟨World.ownsMap_made _ _ _ _, List.Pairwise.nil, Nat.lt_succ_self _, by simp, fun p hp => (by cases hp), fun c hc => (by cases hc), fun p hp => (by cases hp)⟩
theorem GS_below {W0 wr w' : World} {base B nn : Nat} {kf : ch.Cnt → List UInt8} {vs : List ch.Cnt} {kv : ch.KV} (h : GS W0 base wr B nn kf vs kv) (hb : Below wr.heap.size wr w') : GS W0 base w' B nn kf vs kv := by
  refine ⟨h.map.kept (row := none) ⟨hb.os, hb.tape, hb.output, hb.size, fun k hk _ => hb.block k hk⟩ (by simp), h.up, h.lowB, Nat.le_trans h.low hb.size, fun p hp => ?_, h.all, h.apart⟩
  obtain ⟨h0, v, h1, h2, h3⟩ := h.each p hp
  exact ⟨h0, v, h1, GR_keep h2 (fun g hg => hb.block g (GR_lt h2 hg).2), h3⟩
theorem zeroCs (w : World) : (zeroValue 27).run Tryz.prog w = .ok (.slice none 0 0) w := by kernel_rfl
/-- what a look-up brings -/
theorem GS_look {W0 wr : World} {base B nn : Nat} {kf : ch.Cnt → List UInt8} {vs : List ch.Cnt} {kv : ch.KV} (h : GS W0 base wr B nn kf vs kv) (k : ByteArray) (hk : k.size ≤ maxLen) :
    ∃ v, (Instr.lookup 94 (.map (some B)) (.string k) false).run Tryz.prog wr = .ok v wr ∧ isAt v (ch.getK kv k.data.toList) ∧ GR W0 base wr v (ofKey kf vs k.data.toList) := by
  obtain ⟨v, ps, hrun, hv⟩ := h.map.lookup ch.law Tryz.underlying94 (zeroCs _) (zd := .lit (.int .i64 0)) (zp := []) rfl (keyOf_string_mk Tryz.underlying9 hk)
  rw [ch.toD_at] at hv
  have hps : ps = [] := by
    unfold hElem at hv
    split at hv
    · simp only [Option.some.injEq, Prod.mk.injEq] at hv; exact hv.2.symm
    · simp only [Option.some.injEq, Prod.mk.injEq] at hv; exact hv.2.symm
    · cases hv
  subst hps
  refine ⟨v, hrun, hv, ?_⟩
  by_cases e : ch.getK kv k.data.toList = 0
  · have hv0 : isAt v 0 := by rw [e] at hv; exact hv
    have hn := isAt_zero hv0
    subst hn
    have hf : ofKey kf vs k.data.toList = [] := by
      unfold ofKey
      rw [List.filter_eq_nil_iff]
      intro c hc hkc
      obtain ⟨p, hp, e1⟩ := h.all c hc
      have e2 : kf c = k.data.toList := by simpa using hkc
      have h1 := ch.getK_of h.up hp
      rw [e1, e2, e] at h1
      exact (h.each p hp).1 h1.symm
    rw [hf]
    exact GR_nil _ _ _
  · obtain ⟨_, u, h1, h2, _⟩ := h.each _ (ch.getK_mem e)
    have := isAt_inj hv h1
    subst this
    exact h2
/-- one row more -/
theorem GS_put {W0 wr w2 w3 : World} {base B nn : Nat} {kf : ch.Cnt → List UInt8} {vs : List ch.Cnt} {kv : ch.KV} {c : ch.Cnt} {v : Value} {L : ch.PL} {ad : Option Addr} {rc g cap : Nat} {o : Obj} (h : GS W0 base wr B nn kf vs kv)
    (hv : isAt v (ch.getK kv (kf c))) (hL : wr.ownsRow base 71 2 v L.length (ch.flatP L)) (hLo : ch.outOf L = ofKey kf vs (kf c)) (hLr : ∀ p ∈ L, ∃ ad cap, p.1 = .slice ad p.2.r.length cap ∧ vl.rowAt W0 ad p.2.r)
    (hr : vl.rowAt W0 ad c.r) (hg1 : (wr.alloc o).grownBy w2 v.ownBlock) (hat : v.ownBlock = some g ∨ g = wr.heap.size + 1) (hown : w2.ownsRow base 71 2 (.slice (some ⟨g, 0, none⟩) (L.length + 1) cap) (L.length + 1) (ch.flatP (L ++ [(.slice ad c.r.length rc, c)])))
    (hmap : w3.ownsMap Tryz.prog 9 hElem B (nn + 1) ((ch.toD kv).put (.string (kf c)) (.lit (.int .i64 ((pr (pr g (L.length + 1)) cap : Nat) + 1))))) (hg2 : w2.grownBy w3 (some B)) :
    GS W0 base w3 B (nn + 1) kf (vs ++ [c]) (ch.putK kv (kf c) ((pr (pr g (L.length + 1)) cap : Nat) + 1)) := by
  have hlow := h.low
  have hlB := h.lowB
  have hs2 : wr.heap.size + 1 ≤ w2.heap.size := by have := hg1.size; simpa using this
  have hs3 := hg2.size
  have hvlt : ∀ b, v.ownBlock = some b → base ≤ b ∧ b < wr.heap.size := fun b hb => ch.own_lt hL hb
  have hgB : base ≤ g := by
    rcases hat with h1 | h1
    · exact (hvlt g h1).1
    · omega
  have hblk : ∀ b, b < wr.heap.size → v.ownBlock ≠ some b → b ≠ B → w3.heap[b]? = wr.heap[b]? := fun b hb hne hnB => by
    rw [hg2.block b (by omega) (fun e => hnB (by cases e; rfl)), hg1.block b (by simp; omega) (fun e => hne e.symm)]
    exact Below.heap_alloc _ _ b hb
  rw [ch.toD_put] at hmap
  have hvq : ∀ q ∈ kv, q.1 ≠ kf c → ∀ u, isAt u q.2 → ∀ b, u.ownBlock = some b → v.ownBlock ≠ some b := fun q hq hne u hu b hb => by
    by_cases e : ch.getK kv (kf c) = 0
    · rw [e] at hv
      rw [isAt_zero hv]
      intro h; cases h
    · exact fun e2 => h.apart _ (ch.getK_mem e) q hq (fun e => hne e.symm) v u hv hu b e2 hb
  refine ⟨hmap, ch.rising_put h.up _ _, hlB, by omega, fun p hp => ?_, fun x hx => ?_, fun p hp q hq hne a b ha hb b' hb1 hb2 => ?_⟩
  · rcases ch.mem_put.1 hp with rfl | ⟨hp, hne⟩
    · refine ⟨by show (_ : Int) ≠ 0; omega, .slice (some ⟨g, 0, none⟩) (L.length + 1) cap, rfl, ⟨L ++ [(.slice ad c.r.length rc, c)], ?_, ?_, ?_⟩, ?_⟩
      · rw [List.length_append]
        refine ch.own_same hown (fun b hb => ?_)
        have hbg : b = g := by cases hb; rfl
        subst hbg
        have hlt := (ch.own_lt hown (g := b) rfl).2
        exact hg2.block b hlt (fun e => by cases e; omega)
      · rw [ofKey_snoc, if_pos rfl, ← hLo]
        simp [ch.outOf]
      · intro x hx
        rcases List.mem_append.1 hx with hx | hx
        · exact hLr x hx
        · rw [List.mem_singleton.1 hx]
          exact ⟨ad, rc, rfl, hr⟩
      · rw [ofKey_snoc, if_pos rfl]; simp
    · obtain ⟨h0, u, h1, h2, h3⟩ := h.each p hp
      have ek : ofKey kf (vs ++ [c]) p.1 = ofKey kf vs p.1 := by rw [ofKey_snoc, if_neg (fun e => hne e.symm), List.append_nil]
      refine ⟨h0, u, h1, ?_, by rw [ek]; exact h3⟩
      rw [ek]
      refine GR_keep h2 (fun b hb => hblk b (GR_lt h2 hb).2 (hvq p hp hne u h1 b hb) (by have := (GR_lt h2 hb).1; omega))
  · rcases List.mem_append.1 hx with hx | hx
    · obtain ⟨p, hp, e⟩ := h.all x hx
      by_cases e2 : p.1 = kf c
      · exact ⟨_, ch.mem_put.2 (.inl rfl), e2.symm.trans e⟩
      · exact ⟨p, ch.mem_put.2 (.inr ⟨hp, e2⟩), e⟩
    · rw [List.mem_singleton.1 hx]
      exact ⟨_, ch.mem_put.2 (.inl rfl), rfl⟩
  · have hnew : ∀ q ∈ kv, q.1 ≠ kf c → ∀ u, isAt u q.2 → u.ownBlock ≠ some g := fun q hq hne u hu e => by
      obtain ⟨_, u', h1, h2, _⟩ := h.each q hq
      have := isAt_inj hu h1
      subst this
      rcases hat with h5 | h5
      · exact hvq q hq hne u hu g e h5
      · have := (GR_lt h2 e).2; omega
    rcases ch.mem_put.1 hp with rfl | ⟨hp', hpn⟩ <;> rcases ch.mem_put.1 hq with rfl | ⟨hq', hqn⟩
    · exact hne rfl
    · have ha' := isAt_inj ha (isAt_some g (L.length + 1) cap)
      subst ha'
      have : b' = g := by cases hb1; rfl
      subst this
      exact hnew q hq' hqn b hb hb2
    · have hb' := isAt_inj hb (isAt_some g (L.length + 1) cap)
      subst hb'
      have : b' = g := by cases hb2; rfl
      subst this
      exact hnew p hp' hpn a ha hb1
    · exact h.apart p hp' q hq' hne a b ha hb b' hb1 hb2
end Go.Proofs.YtbfbgdinhiglaaaGreat.bt

/- E4: the document's figure. -/
namespace Go.Proofs.YtbfbgdinhiglaaaGreat.bt
open Go.ChangeShapes Go.WideShapes Go.ChangeAt Go.RowKit
open vl pl
set_option linter.unusedVariables false
set_option linter.unusedSimpArgs false
theorem cmpC_in (c d : Cel) : cmpC c d = -1 ∨ cmpC c d = 0 ∨ cmpC c d = 1 := by
  have h1 : ∀ x y : Int, ordI x y = -1 ∨ ordI x y = 0 ∨ ordI x y = 1 := fun x y => by
    unfold ordI
    by_cases h1 : x < y
    · rw [if_pos h1]; exact .inl rfl
    · rw [if_neg h1]
      by_cases h2 : y < x
      · rw [if_pos h2]; exact .inr (.inr rfl)
      · rw [if_neg h2]; exact .inr (.inl rfl)
  rw [cmpC_of]
  split
  · split
    · rw [less_cmp]
      split
      · exact .inl rfl
      · split
        · exact .inr (.inl rfl)
        · exact .inr (.inr rfl)
    · exact h1 _ _
  · exact h1 _ _
end Go.Proofs.YtbfbgdinhiglaaaGreat.bt
