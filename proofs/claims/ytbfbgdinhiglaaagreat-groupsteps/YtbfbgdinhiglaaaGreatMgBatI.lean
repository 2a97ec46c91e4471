import Derived.Test.YtbfbgdinhiglaaaGreatS11
import Derived.Test.YtbfbgdinhiglaaaGreatMgValA
import Derived.Test.YtbfbgdinhiglaaaGreatS8
import Derived.Deep.RegionLaw
import Derived.Maps.OwnSet
import Derived.BigRegion
namespace Go.Proofs.YtbfbgdinhiglaaaGreat.bt
open Go.ChangeShapes Go.WideShapes Go.ChangeAt Go.RowKit
open vl pl
set_option linter.unusedVariables false
set_option linter.unusedSimpArgs false
def noCel : Cel := ⟨0, 0, ⟨#[]⟩⟩
def cntS (v : List ch.Cnt) : Int := v.foldl (fun s c => wrap64 (s + c.n)) 0
def sumStep (col : Nat) (b : Cel) (c : ch.Cnt) : Cel := if (c.r.getD col default).k = 2 then ⟨2, wrap64 (b.n + wrap64 ((c.r.getD col default).n * c.n)), ⟨#[]⟩⟩ else b
def outStep (col : Nat) (way : Int) (b : Cel) (c : ch.Cnt) : Cel := if (c.r.getD col default).k = 0 then b else if b.k = 0 ∨ cmpC (c.r.getD col default) b = way then c.r.getD col default else b
def figC (a : Int × Int) (v : List ch.Cnt) : Cel :=
 if a.1 = 1 then ⟨2, cntS v, ⟨#[]⟩⟩ else if a.1 = 2 then v.foldl (sumStep a.2.toNat) noCel else if a.1 = 3 then v.foldl (outStep a.2.toNat (-1)) noCel else v.foldl (outStep a.2.toNat 1) noCel
theorem take_c (v : List ch.Cnt) (k : Nat) (h : k < v.length) : v.take (k + 1) = v.take k ++ [v.getD k default] := by
 rw [List.take_succ_eq_append_getElem h]; simp [List.getD_eq_getElem?_getD, h]
theorem foldl_take {β : Type} (f : β → ch.Cnt → β) (b : β) (v : List ch.Cnt) (k : Nat) (h : k < v.length) : (v.take (k + 1)).foldl f b = f ((v.take k).foldl f b) (v.getD k default) := by
 rw [take_c v k h, List.foldl_append]; rfl
def celV (c : Cel) : Value := .agg #[.int .i64 c.k, .int .i64 c.n, .string c.s]
abbrev Tal := Cel × Int
def bagAt (w : World) (a : Option Addr) (l : List Tal) : Prop := ∀ i, i < l.length → ∃ b o, a = some ⟨b, o, none⟩ ∧ w.cell? ⟨b, o + i * 4, none⟩ = some (.int .i64 (l.getD i default).1.k) ∧ w.cell? ⟨b, o + i * 4 + 1, none⟩ = some (.int .i64 (l.getD i default).1.n) ∧ w.cell? ⟨b, o + i * 4 + 2, none⟩ = some (.string (l.getD i default).1.s) ∧ w.cell? ⟨b, o + i * 4 + 3, none⟩ = some (.int .i64 (l.getD i default).2)
theorem bagAt_below {w w' : World} {a : Option Addr} {l : List Tal} (h : bagAt w a l) (hb : Below w.heap.size w w') : bagAt w' a l := fun i hi => by
 obtain ⟨b, o, e, x1, x2, x3, x4⟩ := h i hi
 exact ⟨b, o, e, cL hb x1, cL hb x2, cL hb x3, cL hb x4⟩
def sumT (b : Cel) (t : Tal) : Cel := if t.1.k = 2 then ⟨2, wrap64 (b.n + wrap64 (t.1.n * t.2)), ⟨#[]⟩⟩ else b
def outT (way : Int) (b : Cel) (t : Tal) : Cel := if t.1.k = 0 then b else if b.k = 0 ∨ cmpC t.1 b = way then t.1 else b
def figT (fn n : Int) (l : List Tal) : Cel :=
 if fn = 1 then ⟨2, n, ⟨#[]⟩⟩ else if fn = 2 then l.foldl sumT noCel else if fn = 3 then l.foldl (outT (-1)) noCel else l.foldl (outT 1) noCel
def bagOf (col : Nat) (v : List ch.Cnt) : List Tal := v.map fun c => (c.r.getD col default, c.n)
theorem figT_of (a : Int × Int) (v : List ch.Cnt) : figT a.1 (cntS v) (bagOf a.2.toNat v) = figC a v := by
 unfold figT figC bagOf
 simp only [List.foldl_map]
 rfl
theorem foldl_takeT {β : Type} (f : β → Tal → β) (b : β) (v : List Tal) (k : Nat) (h : k < v.length) : (v.take (k + 1)).foldl f b = f ((v.take k).foldl f b) (v.getD k default) := by
 rw [List.take_succ_eq_append_getElem h, List.foldl_append]; simp [List.getD_eq_getElem?_getD, h]
structure Box3 (B : Nat) (w : World) (c : Cel) : Prop where
 k : w.cell? ⟨B, 0, none⟩ = some (.int .i64 c.k)
 n : w.cell? ⟨B, 1, none⟩ = some (.int .i64 c.n)
 s : w.cell? ⟨B, 2, none⟩ = some (.string c.s)
 f : ∀ j, w.frozen? ⟨B, j, none⟩ = false
theorem Box3_below {B : Nat} {w w' : World} {c : Cel} (h : Box3 B w c) (hb : Below w.heap.size w w') : Box3 B w' c :=
 ⟨cL hb h.k, cL hb h.n, cL hb h.s, fun j => (hb.frozen (p := ⟨B, j, none⟩) (show B < _ from World.block_lt_of_cell? _ _ h.k)).trans (h.f j)⟩
theorem Box3_set {B : Nat} {w : World} {c : Cel} (h : Box3 B w c) (k n : Int) (s : ByteArray) : Box3 B (((w.setCell ⟨B, 0, none⟩ (.int .i64 k)).setCell ⟨B, 1, none⟩ (.int .i64 n)).setCell ⟨B, 2, none⟩ (.string s)) ⟨k, n, s⟩ := by
 have h0 := h.k
 have h1 := h.n
 have h2 := h.s
 have ne : ∀ i j : Nat, i ≠ j → (⟨B, i, none⟩ : Addr) ≠ ⟨B, j, none⟩ := fun i j h e => h (by cases e; rfl)
 refine ⟨?_, ?_, ?_, fun j => ?_⟩
 ·rw [World.cell?_setCell_other _ _ _ _ (ne 2 0 (by decide)), World.cell?_setCell_other _ _ _ _ (ne 1 0 (by decide)), World.cell?_setCell_same _ _ _ h0]
 ·rw [World.cell?_setCell_other _ _ _ _ (ne 2 1 (by decide)), World.cell?_setCell_same _ _ _ (by rw [World.cell?_setCell_other _ _ _ _ (ne 0 1 (by decide))]; exact h1)]
 ·rw [World.cell?_setCell_same _ _ _ (by rw [World.cell?_setCell_other _ _ _ _ (ne 1 2 (by decide)), World.cell?_setCell_other _ _ _ _ (ne 0 2 (by decide))]; exact h2)]
 ·rw [World.frozen?_setCell, World.frozen?_setCell, World.frozen?_setCell]; exact h.f j
theorem Below_set3 {a B : Nat} {w w' : World} (h : Below a w w') (hB : a ≤ B) (x y z : Value) : Below a w (((w'.setCell ⟨B, 0, none⟩ x).setCell ⟨B, 1, none⟩ y).setCell ⟨B, 2, none⟩ z) :=
 ((h.setCell (p := ⟨B, 0, none⟩) hB _).setCell (p := ⟨B, 1, none⟩) hB _).setCell (p := ⟨B, 2, none⟩) hB _
set_option maxRecDepth 10000 in
set_option maxHeartbeats 2000000 in
theorem sum_any (a : Option Addr) (cap : Nat) (v : List Tal) (w : World) (hl : v.length ≤ 1073741824) (ha : bagAt w a v) :
 Calls Tryz.prog 105 #[.slice a v.length cap] w fun e w' => e = .returned (celV (v.foldl sumT noCel)) ∧ Below w.heap.size w w' := by
 have HA : Hid (bagAt w a v) := ha
 have HS : Hid (∀ k, k < v.length → (v.take (k + 1)).foldl sumT noCel = sumT ((v.take k).foldl sumT noCel) (v.getD k default)) := fun k h => foldl_takeT _ _ v k h
 have H0 : Hid ((v.take 0).foldl sumT noCel = noCel) := rfl
 have HE : Hid ((v.take v.length).foldl sumT noCel = v.foldl sumT noCel) := by show (v.take v.length).foldl _ _ = _; rw [List.take_length]
 obtain ⟨CS, hCS⟩ : ∃ f : Nat → Cel, ∀ k, (v.take k).foldl sumT noCel = f k := ⟨_, fun _ => rfl⟩
 obtain ⟨cs, hcs⟩ : ∃ z, v.foldl sumT noCel = z := ⟨_, rfl⟩
 simp only [hCS, hcs] at HS H0 HE ⊢
 clear hCS hcs ha
 obtain ⟨n, hn⟩ : ∃ n, v.length = n := ⟨_, rfl⟩
 have HN : Hid (v.length = n) := hn
 rw [hn] at HS HE hl ⊢
 clear hn
 unfold celV
 go_enter Tryz.func105, Tryz.ntmps105
 go_wp2
 generalize hW0 : (World.alloc (World.alloc w _) _) = W0
 have hb0 : Below w.heap.size w W0 := by rw [← hW0]; exact (bR.alloc nR _).alloc (by simp) _
 have r0 : W0.cell? ⟨w.heap.size, 0, none⟩ = some (.int .i64 0) := by subst hW0; go_simp
 have r1 : W0.cell? ⟨w.heap.size, 1, none⟩ = some (.int .i64 0) := by subst hW0; go_simp
 have r2 : W0.cell? ⟨w.heap.size, 2, none⟩ = some (.string ⟨#[]⟩) := by subst hW0; go_simp
 have g0 : ∀ j, W0.frozen? ⟨w.heap.size, j, none⟩ = false := by intro j; subst hW0; go_simp
 have y0 : W0.cell? ⟨w.heap.size + 1, 0, none⟩ = some (.int .i64 0) := by subst hW0; go_simp
 have y1 : W0.cell? ⟨w.heap.size + 1, 1, none⟩ = some (.int .i64 0) := by subst hW0; go_simp
 have y2 : W0.cell? ⟨w.heap.size + 1, 2, none⟩ = some (.string ⟨#[]⟩) := by subst hW0; go_simp
 have g1 : ∀ j, W0.frozen? ⟨w.heap.size + 1, j, none⟩ = false := by intro j; subst hW0; go_simp
 have hlt0 : w.heap.size + 1 < W0.heap.size := World.block_lt_of_cell? _ _ y0
 have HB0 : Hid (Box3 (w.heap.size + 1) W0 noCel) := ⟨y0, y1, y2, g1⟩
 clear hW0 y0 y1 y2 g1
 go_loopw [8] (fun i wr => ∃ k : Nat, k ≤ n ∧ i = .int .i64 k ∧ Box3 (w.heap.size + 1) wr (CS k) ∧ Below (w.heap.size + 1) W0 wr) (fun i _ => n - (intOf i).toNat)
 case atStart => exact ⟨0, Nat.zero_le _, rfl, by rw [H0.out]; exact HB0.out, bR⟩
 case round =>
  obtain ⟨k, hk, rfl, hbox, hnx⟩ := hrel
  have HBX : Hid (Box3 (w.heap.size + 1) wr (CS k)) := hbox
  have hbr : Below w.heap.size w wr := hb0.trans (hnx.mono (by omega))
  have hsz := hnx.size
  have z0 := hbox.k
  have z1 := hbox.n
  have z2 := hbox.s
  have zf := hbox.f
  have c0 : wr.cell? ⟨w.heap.size, 0, none⟩ = _ := (hnx.cell (p := ⟨w.heap.size, 0, none⟩) (by show w.heap.size < _; omega)).trans r0
  have c1 : wr.cell? ⟨w.heap.size, 1, none⟩ = _ := (hnx.cell (p := ⟨w.heap.size, 1, none⟩) (by show w.heap.size < _; omega)).trans r1
  have c2 : wr.cell? ⟨w.heap.size, 2, none⟩ = _ := (hnx.cell (p := ⟨w.heap.size, 2, none⟩) (by show w.heap.size < _; omega)).trans r2
  have f0 : ∀ j, wr.frozen? ⟨w.heap.size, j, none⟩ = false := fun j => (hnx.frozen (p := ⟨w.heap.size, j, none⟩) (by show w.heap.size < _; omega)).trans (g0 j)
  clear hbox
  by_cases hlt : k < n
  ·obtain ⟨b3, o3, e3, m1, m2, m3, m4⟩ := HA.out k (by rw [HN.out]; exact hlt)
   subst e3
   have p1 := cL hbr m1
   have p2 := cL hbr m2
   have p3 := cL hbr m3
   have p4 := cL hbr m4
   have hb3 : b3 < wr.heap.size := World.block_lt_of_cell? _ _ p1
   have i1 : (0 : Int) ≤ (k : Int) := by omega
   have i2 : (k : Int) < (n : Int) := by omega
   have HS1 : Hid (CS (k + 1) = sumT (CS k) (v.getD k default)) := HS.out k hlt
   unfold sumT at HS1
   have hSB : w.heap.size + 1 < wr.heap.size := World.block_lt_of_cell? _ _ z0
   have hSA : w.heap.size < wr.heap.size := by omega
   obtain ⟨⟨⟨xk, xn, xs⟩, m⟩, hx⟩ : ∃ z, v.getD k default = z := ⟨_, rfl⟩
   rw [hx] at HS1
   rw [hx] at p1 p2 p3 p4
   obtain ⟨⟨sk, sn, ss⟩, hs⟩ : ∃ z, CS k = z := ⟨_, rfl⟩
   rw [hs] at z0 z1 z2 HBX HS1
   dsimp only at p1 p2 p3 p4 z0 z1 z2 HS1
   clear hx hs m1 m2 m3 m4
   by_cases h2 : xk = 2
   ·subst h2
    have HS2 : Hid (CS (k + 1) = ⟨2, wrap64 (sn + wrap64 (xn * m)), ⟨#[]⟩⟩) := by have := HS1.out; rw [if_pos rfl] at this; exact this
    clear HS1
    go_wp2
    go_roundw
    case rel => exact ⟨k + 1, by omega, by go_num, by rw [HS2.out]; exact Box3_below (Box3_set HBX.out _ _ _) (bR.alloc nR _), (Below_set3 hnx nR _ _ _).alloc (by simp [World.setCell]; omega) _⟩
    case measure => simp [intOf]; omega
   ·have h2' : (xk == 2) = false := by rw [beq_eq_false_iff_ne]; exact h2
    have HS2 : Hid (CS (k + 1) = ⟨sk, sn, ss⟩) := by have := HS1.out; rw [if_neg h2] at this; exact this
    clear HS1 h2
    go_wp2
    go_roundw
    case rel => exact ⟨k + 1, by omega, by go_num, by rw [HS2.out]; exact Box3_below HBX.out (bR.alloc nR _), hnx.alloc (by omega) _⟩
    case measure => simp [intOf]; omega
  ·have hkn : k = n := by omega
   subst hkn
   have HE1 : Hid (CS k = cs) := HE.out
   go_wp2
   exact bodyPost_ret (v := .agg #[.int .i64 (CS k).k, .int .i64 (CS k).n, .string (CS k).s]) (by simp [results, Tryz.results105, go_sem, c0, c1, c2]) rfl ⟨by rw [HE1.out], Below_set3 hbr nR _ _ _⟩
set_option maxRecDepth 10000 in
set_option maxHeartbeats 2000000 in
theorem outermost_any (a : Option Addr) (cap : Nat) (v : List Tal) (way : Int) (w : World) (hl : v.length ≤ 1073741824) (ha : bagAt w a v) :
 Calls Tryz.prog 106 #[.slice a v.length cap, .int .i64 way] w fun e w' => e = .returned (celV (v.foldl (outT way) noCel)) ∧ Below w.heap.size w w' := by
 have HA : Hid (bagAt w a v) := ha
 have HS : Hid (∀ k, k < v.length → (v.take (k + 1)).foldl (outT way) noCel = (outT way) ((v.take k).foldl (outT way) noCel) (v.getD k default)) := fun k h => foldl_takeT _ _ v k h
 have H0 : Hid ((v.take 0).foldl (outT way) noCel = noCel) := rfl
 have HE : Hid ((v.take v.length).foldl (outT way) noCel = v.foldl (outT way) noCel) := by show (v.take v.length).foldl _ _ = _; rw [List.take_length]
 obtain ⟨CS, hCS⟩ : ∃ f : Nat → Cel, ∀ k, (v.take k).foldl (outT way) noCel = f k := ⟨_, fun _ => rfl⟩
 obtain ⟨cs, hcs⟩ : ∃ z, v.foldl (outT way) noCel = z := ⟨_, rfl⟩
 simp only [hCS, hcs] at HS H0 HE ⊢
 clear hCS hcs ha
 obtain ⟨n, hn⟩ : ∃ n, v.length = n := ⟨_, rfl⟩
 have HN : Hid (v.length = n) := hn
 rw [hn] at HS HE hl ⊢
 clear hn
 unfold celV
 go_enter Tryz.func106, Tryz.ntmps106
 go_wp2
 generalize hW0 : (World.alloc (World.alloc w _) _) = W0
 have hb0 : Below w.heap.size w W0 := by rw [← hW0]; exact (bR.alloc nR _).alloc (by simp) _
 have r0 : W0.cell? ⟨w.heap.size, 0, none⟩ = some (.int .i64 0) := by subst hW0; go_simp
 have r1 : W0.cell? ⟨w.heap.size, 1, none⟩ = some (.int .i64 0) := by subst hW0; go_simp
 have r2 : W0.cell? ⟨w.heap.size, 2, none⟩ = some (.string ⟨#[]⟩) := by subst hW0; go_simp
 have g0 : ∀ j, W0.frozen? ⟨w.heap.size, j, none⟩ = false := by intro j; subst hW0; go_simp
 have y0 : W0.cell? ⟨w.heap.size + 1, 0, none⟩ = some (.int .i64 0) := by subst hW0; go_simp
 have y1 : W0.cell? ⟨w.heap.size + 1, 1, none⟩ = some (.int .i64 0) := by subst hW0; go_simp
 have y2 : W0.cell? ⟨w.heap.size + 1, 2, none⟩ = some (.string ⟨#[]⟩) := by subst hW0; go_simp
 have g1 : ∀ j, W0.frozen? ⟨w.heap.size + 1, j, none⟩ = false := by intro j; subst hW0; go_simp
 have hlt0 : w.heap.size + 1 < W0.heap.size := World.block_lt_of_cell? _ _ y0
 have HB0 : Hid (Box3 (w.heap.size + 1) W0 noCel) := ⟨y0, y1, y2, g1⟩
 clear hW0 y0 y1 y2 g1
 go_loopw [10] (fun i wr => ∃ k : Nat, k ≤ n ∧ i = .int .i64 k ∧ Box3 (w.heap.size + 1) wr (CS k) ∧ Below (w.heap.size + 1) W0 wr) (fun i _ => n - (intOf i).toNat)
 case atStart => exact ⟨0, Nat.zero_le _, rfl, by rw [H0.out]; exact HB0.out, bR⟩
 case round =>
  obtain ⟨k, hk, rfl, hbox, hnx⟩ := hrel
  have HBX : Hid (Box3 (w.heap.size + 1) wr (CS k)) := hbox
  have hbr : Below w.heap.size w wr := hb0.trans (hnx.mono (by omega))
  have hsz := hnx.size
  have z0 := hbox.k
  have z1 := hbox.n
  have z2 := hbox.s
  have zf := hbox.f
  have c0 : wr.cell? ⟨w.heap.size, 0, none⟩ = _ := (hnx.cell (p := ⟨w.heap.size, 0, none⟩) (by show w.heap.size < _; omega)).trans r0
  have c1 : wr.cell? ⟨w.heap.size, 1, none⟩ = _ := (hnx.cell (p := ⟨w.heap.size, 1, none⟩) (by show w.heap.size < _; omega)).trans r1
  have c2 : wr.cell? ⟨w.heap.size, 2, none⟩ = _ := (hnx.cell (p := ⟨w.heap.size, 2, none⟩) (by show w.heap.size < _; omega)).trans r2
  have f0 : ∀ j, wr.frozen? ⟨w.heap.size, j, none⟩ = false := fun j => (hnx.frozen (p := ⟨w.heap.size, j, none⟩) (by show w.heap.size < _; omega)).trans (g0 j)
  clear hbox
  by_cases hlt : k < n
  ·obtain ⟨b3, o3, e3, m1, m2, m3, m4⟩ := HA.out k (by rw [HN.out]; exact hlt)
   subst e3
   have p1 := cL hbr m1
   have p2 := cL hbr m2
   have p3 := cL hbr m3
   have p4 := cL hbr m4
   have hb3 : b3 < wr.heap.size := World.block_lt_of_cell? _ _ p1
   have i1 : (0 : Int) ≤ (k : Int) := by omega
   have i2 : (k : Int) < (n : Int) := by omega
   have HS1 : Hid (CS (k + 1) = (outT way) (CS k) (v.getD k default)) := HS.out k hlt
   unfold outT at HS1
   have hSB : w.heap.size + 1 < wr.heap.size := World.block_lt_of_cell? _ _ z0
   have hSA : w.heap.size < wr.heap.size := by omega
   obtain ⟨⟨⟨xk, xn, xs⟩, m⟩, hx⟩ : ∃ z, v.getD k default = z := ⟨_, rfl⟩
   rw [hx] at HS1
   rw [hx] at p1 p2 p3 p4
   obtain ⟨⟨sk, sn, ss⟩, hs⟩ : ∃ z, CS k = z := ⟨_, rfl⟩
   rw [hs] at z0 z1 z2 HBX HS1
   dsimp only at p1 p2 p3 p4 z0 z1 z2 HS1
   clear hx hs m1 m2 m3 m4
   have KC : Hid (∀ w1, Calls Tryz.prog 124 #[.agg #[.int .i64 xk, .int .i64 xn, .string xs], .agg #[.int .i64 sk, .int .i64 sn, .string ss]] w1 fun e w' => e = .returned (.int .i64 (cmpC ⟨xk, xn, xs⟩ ⟨sk, sn, ss⟩)) ∧ Below w1.heap.size w1 w') := fun w1 => compare_any xk xn xs sk sn ss w1
   obtain ⟨cv, hcv⟩ : ∃ z, cmpC ⟨xk, xn, xs⟩ ⟨sk, sn, ss⟩ = z := ⟨_, rfl⟩
   rw [hcv] at HS1 KC
   clear hcv
   by_cases h2 : xk = 0
   ·subst h2
    have HS2 : Hid (CS (k + 1) = ⟨sk, sn, ss⟩) := by have := HS1.out; rw [if_pos rfl] at this; exact this
    clear HS1 KC
    go_wp2
    go_roundw
    case rel => exact ⟨k + 1, by omega, by go_num, by rw [HS2.out]; exact Box3_below HBX.out (bR.alloc nR _), hnx.alloc (by omega) _⟩
    case measure => simp [intOf]; omega
   ·have h2' : (xk == 0) = false := by rw [beq_eq_false_iff_ne]; exact h2
    have HS3 : Hid (CS (k + 1) = if sk = 0 ∨ cv = way then ⟨xk, xn, xs⟩ else ⟨sk, sn, ss⟩) := by have := HS1.out; rw [if_neg h2] at this; exact this
    clear HS1 h2
    by_cases h3 : sk = 0
    ·subst h3
     have HS2 : Hid (CS (k + 1) = ⟨xk, xn, xs⟩) := by have := HS3.out; rw [if_pos (.inl rfl)] at this; exact this
     clear HS3 KC
     go_wp2
     go_roundw
     case rel => exact ⟨k + 1, by omega, by go_num, by rw [HS2.out]; exact Box3_below (Box3_set HBX.out _ _ _) (bR.alloc nR _), (Below_set3 hnx nR _ _ _).alloc (by simp [World.setCell]; omega) _⟩
     case measure => simp [intOf]; omega
    ·have h3' : (sk == 0) = false := by rw [beq_eq_false_iff_ne]; exact h3
     by_cases h4 : cv = way
     ·have HS2 : Hid (CS (k + 1) = ⟨xk, xn, xs⟩) := by have := HS3.out; rw [if_pos (.inr h4)] at this; exact this
      have h4' : (cv == way) = true := by rw [beq_iff_eq]; exact h4
      clear HS3 h3 h4
      go_wp2_with (go_at_call 124; refine (KC.out _).mono ?_; rintro e w1 ⟨rfl, hb1⟩; have hbx := (bR.alloc nR _).trans (hb1.mono (by simp)); have hx0 : w1.cell? ⟨wr.heap.size, 0, none⟩ = some (.int .i64 xk) := cL hb1 (by go_simp); have hx1 : w1.cell? ⟨wr.heap.size, 1, none⟩ = some (.int .i64 xn) := cL hb1 (by go_simp); have hx2 : w1.cell? ⟨wr.heap.size, 2, none⟩ = some (.string xs) := cL hb1 (by go_simp); have hy0 := cL hbx z0; have hy1 := cL hbx z1; have hy2 := cL hbx z2; have hyf : ∀ j, w1.frozen? ⟨w.heap.size + 1, j, none⟩ = false := fun j => (hbx.frozen (p := ⟨w.heap.size + 1, j, none⟩) hSB).trans (zf j))
      go_roundw
      case rel => exact ⟨k + 1, by omega, by go_num, by rw [HS2.out]; exact Box3_set (Box3_below HBX.out hbx) _ _ _, Below_set3 (hnx.trans (hbx.mono (by omega))) nR _ _ _⟩
      case measure => simp [intOf]; omega
     ·have HS2 : Hid (CS (k + 1) = ⟨sk, sn, ss⟩) := by have := HS3.out; rw [if_neg (fun h => h.elim h3 h4)] at this; exact this
      have h4' : (cv == way) = false := by rw [beq_eq_false_iff_ne]; exact h4
      clear HS3 h3 h4
      go_wp2_with (go_at_call 124; refine (KC.out _).mono ?_; rintro e w1 ⟨rfl, hb1⟩; have hbx := (bR.alloc nR _).trans (hb1.mono (by simp)))
      go_roundw
      case rel => exact ⟨k + 1, by omega, by go_num, by rw [HS2.out]; exact Box3_below HBX.out hbx, hnx.trans (hbx.mono (by omega))⟩
      case measure => simp [intOf]; omega
  ·have hkn : k = n := by omega
   subst hkn
   have HE1 : Hid (CS k = cs) := HE.out
   go_wp2
   exact bodyPost_ret (v := .agg #[.int .i64 (CS k).k, .int .i64 (CS k).n, .string (CS k).s]) (by simp [results, Tryz.results106, go_sem, c0, c1, c2]) rfl ⟨by rw [HE1.out], Below_set3 hbr nR _ _ _⟩
set_option maxRecDepth 10000 in
set_option maxHeartbeats 2000000 in
theorem of_any (fn n : Int) (a : Option Addr) (cap : Nat) (v : List Tal) (w : World) (hl : v.length ≤ 1073741824) (ha : bagAt w a v) (hag : 1 ≤ fn ∧ fn ≤ 4) :
 Calls Tryz.prog 57 #[.int .i64 fn, .int .i64 n, .slice a v.length cap] w fun e w' => e = .returned (celV (figT fn n v)) ∧ Below w.heap.size w w' := by
 have K2 : Hid (∀ w1, Below w.heap.size w w1 → Calls Tryz.prog 105 #[.slice a v.length cap] w1 fun e w' => e = .returned (celV (v.foldl sumT noCel)) ∧ Below w1.heap.size w1 w') := fun w1 hb => sum_any a cap v w1 hl (bagAt_below ha hb)
 have K3 : Hid (∀ way w1, Below w.heap.size w w1 → Calls Tryz.prog 106 #[.slice a v.length cap, .int .i64 way] w1 fun e w' => e = .returned (celV (v.foldl (outT way) noCel)) ∧ Below w1.heap.size w1 w') := fun way w1 hb => outermost_any a cap v way w1 hl (bagAt_below ha hb)
 unfold figT
 obtain ⟨⟨sk, sn, ss⟩, e2⟩ : ∃ z, v.foldl sumT noCel = z := ⟨_, rfl⟩
 obtain ⟨⟨ak, an, az⟩, e3⟩ : ∃ z, v.foldl (outT (-1)) noCel = z := ⟨_, rfl⟩
 obtain ⟨⟨bk, bn, bs⟩, e4⟩ : ∃ z, v.foldl (outT 1) noCel = z := ⟨_, rfl⟩
 have K4 : Hid (∀ w1, Below w.heap.size w w1 → Calls Tryz.prog 106 #[.slice a v.length cap, .int .i64 (-1)] w1 fun e w' => e = .returned (celV ⟨ak, an, az⟩) ∧ Below w1.heap.size w1 w') := fun w1 hb => by
  have := K3.out (-1) w1 hb
  rwa [e3] at this
 have K5 : Hid (∀ w1, Below w.heap.size w w1 → Calls Tryz.prog 106 #[.slice a v.length cap, .int .i64 1] w1 fun e w' => e = .returned (celV ⟨bk, bn, bs⟩) ∧ Below w1.heap.size w1 w') := fun w1 hb => by
  have := K3.out 1 w1 hb
  rwa [e4] at this
 rw [e2] at K2 ⊢
 rw [e3, e4]
 clear K3 e2 e3 e4 ha hl
 obtain ⟨q, hq⟩ : ∃ n, v.length = n := ⟨_, rfl⟩
 rw [hq] at K2 K4 K5 ⊢
 clear hq
 unfold celV at K2 K4 K5 ⊢
 dsimp only at K2 K4 K5
 have h4 : fn = 1 ∨ fn = 2 ∨ fn = 3 ∨ fn = 4 := by omega
 have hba : ∀ o1, Below w.heap.size w (w.alloc o1) := fun o1 => bR.alloc nR _
 rcases h4 with rfl | rfl | rfl | rfl
 ·rw [if_pos rfl]
  dsimp only
  clear K2 K4 K5 hag
  go_enter Tryz.func57, Tryz.ntmps57
  go_wp2
  exact bodyPost_ret (v := .agg #[.int .i64 2, .int .i64 n, .string ⟨#[]⟩]) (by simp [results, Tryz.results57, go_sem]) rfl ⟨rfl, hba _⟩
 ·rw [if_neg (by decide), if_pos rfl]
  dsimp only
  clear K4 K5 hag
  go_enter Tryz.func57, Tryz.ntmps57
  go_wp2_with fail
  refine (K2.out _ (hba _)).mono ?_
  rintro e w1 ⟨rfl, hb1⟩
  have hbn : Below w.heap.size w w1 := (hba _).trans (hb1.mono (by simp))
  have z0 : w1.cell? ⟨w.heap.size, 0, none⟩ = some (.int .i64 0) := cL hb1 (by go_simp)
  have z1 : w1.cell? ⟨w.heap.size, 1, none⟩ = some (.int .i64 0) := cL hb1 (by go_simp)
  have z2 : w1.cell? ⟨w.heap.size, 2, none⟩ = some (.string ⟨#[]⟩) := cL hb1 (by go_simp)
  have zf : ∀ j, w1.frozen? ⟨w.heap.size, j, none⟩ = false := fun j => (hb1.frozen (p := ⟨w.heap.size, j, none⟩) (by simp)).trans (by go_simp)
  go_wp2
  exact bodyPost_ret (v := .agg #[.int .i64 sk, .int .i64 sn, .string ss]) (by simp [results, Tryz.results57, go_sem, z0, z1, z2]) rfl ⟨rfl, Below_set3 hbn nR _ _ _⟩
 ·rw [if_neg (by decide), if_neg (by decide), if_pos rfl]
  dsimp only
  clear K2 K5 hag
  go_enter Tryz.func57, Tryz.ntmps57
  go_wp2_with fail
  refine (K4.out _ (hba _)).mono ?_
  rintro e w1 ⟨rfl, hb1⟩
  have hbn : Below w.heap.size w w1 := (hba _).trans (hb1.mono (by simp))
  have z0 : w1.cell? ⟨w.heap.size, 0, none⟩ = some (.int .i64 0) := cL hb1 (by go_simp)
  have z1 : w1.cell? ⟨w.heap.size, 1, none⟩ = some (.int .i64 0) := cL hb1 (by go_simp)
  have z2 : w1.cell? ⟨w.heap.size, 2, none⟩ = some (.string ⟨#[]⟩) := cL hb1 (by go_simp)
  have zf : ∀ j, w1.frozen? ⟨w.heap.size, j, none⟩ = false := fun j => (hb1.frozen (p := ⟨w.heap.size, j, none⟩) (by simp)).trans (by go_simp)
  go_wp2
  exact bodyPost_ret (v := .agg #[.int .i64 ak, .int .i64 an, .string az]) (by simp [results, Tryz.results57, go_sem, z0, z1, z2]) rfl ⟨rfl, Below_set3 hbn nR _ _ _⟩
 ·rw [if_neg (by decide), if_neg (by decide), if_neg (by decide)]
  dsimp only
  clear K2 K4 hag
  go_enter Tryz.func57, Tryz.ntmps57
  go_wp2_with fail
  refine (K5.out _ (hba _)).mono ?_
  rintro e w1 ⟨rfl, hb1⟩
  have hbn : Below w.heap.size w w1 := (hba _).trans (hb1.mono (by simp))
  have z0 : w1.cell? ⟨w.heap.size, 0, none⟩ = some (.int .i64 0) := cL hb1 (by go_simp)
  have z1 : w1.cell? ⟨w.heap.size, 1, none⟩ = some (.int .i64 0) := cL hb1 (by go_simp)
  have z2 : w1.cell? ⟨w.heap.size, 2, none⟩ = some (.string ⟨#[]⟩) := cL hb1 (by go_simp)
  have zf : ∀ j, w1.frozen? ⟨w.heap.size, j, none⟩ = false := fun j => (hb1.frozen (p := ⟨w.heap.size, j, none⟩) (by simp)).trans (by go_simp)
  go_wp2
  exact bodyPost_ret (v := .agg #[.int .i64 bk, .int .i64 bn, .string bs]) (by simp [results, Tryz.results57, go_sem, z0, z1, z2]) rfl ⟨rfl, Below_set3 hbn nR _ _ _⟩
def talCells (l : List Tal) : List Value := l.flatMap fun t => [.int .i64 t.1.k, .int .i64 t.1.n, .string t.1.s, .int .i64 t.2]
theorem talCells_at : ∀ (l : List Tal) (i : Nat), i < l.length → (talCells l)[i * 4]? = some (.int .i64 (l.getD i default).1.k) ∧ (talCells l)[i * 4 + 1]? = some (.int .i64 (l.getD i default).1.n) ∧ (talCells l)[i * 4 + 2]? = some (.string (l.getD i default).1.s) ∧ (talCells l)[i * 4 + 3]? = some (.int .i64 (l.getD i default).2)
 | [], i, h => absurd h (Nat.not_lt_zero i)
 | t :: l, 0, _ => ⟨rfl, rfl, rfl, rfl⟩
 | t :: l, i + 1, h => by
  have ih := talCells_at l i (by simpa using h)
  have e1 : talCells (t :: l) = .int .i64 t.1.k :: .int .i64 t.1.n :: .string t.1.s :: .int .i64 t.2 :: talCells l := rfl
  rw [e1, show (i + 1) * 4 = i * 4 + 1 + 1 + 1 + 1 by omega, show i * 4 + 1 + 1 + 1 + 1 + 1 = (i * 4 + 1) + 1 + 1 + 1 + 1 by omega, show i * 4 + 1 + 1 + 1 + 1 + 2 = (i * 4 + 2) + 1 + 1 + 1 + 1 by omega, show i * 4 + 1 + 1 + 1 + 1 + 3 = (i * 4 + 3) + 1 + 1 + 1 + 1 by omega]
  simp only [List.getElem?_cons_succ, List.getD_cons_succ]
  exact ih
def ownT (w : World) (base : Nat) (v : Value) (l : List Tal) : Prop := w.ownsRow base 82 4 v l.length (talCells l)
theorem ownT_at {w : World} {base : Nat} {ad : Option Addr} {n cap : Nat} {l : List Tal} (h : ownT w base (.slice ad n cap) l) : bagAt w ad l ∧ n = l.length := by
 obtain ⟨ad', cap', hv, hg⟩ := own_form h
 injection hv with ha hn hc
 subst ha hc
 refine ⟨fun i hi => ?_, hn⟩
 obtain ⟨g, rfl⟩ := hg (by omega)
 obtain ⟨x1, x2, x3, x4⟩ := talCells_at l i hi
 refine ⟨g, 0, rfl, ?_, ?_, ?_, ?_⟩
 ·have := World.ownsRow.cells h (g := g) rfl _ _ x1; rwa [add_off] at this
 ·have := World.ownsRow.cells h (g := g) rfl _ _ x2; rw [add_off] at this; rw [Nat.add_assoc]; exact this
 ·have := World.ownsRow.cells h (g := g) rfl _ _ x3; rw [add_off] at this; rw [Nat.add_assoc]; exact this
 ·have := World.ownsRow.cells h (g := g) rfl _ _ x4; rw [add_off] at this; rw [Nat.add_assoc]; exact this
theorem infoT : (Tryz.prog.info? 82).map (fun i => (i.zero, i.size, i.bytes)) = some (some (.agg #[.int .i64 0, .int .i64 0, .string ⟨#[]⟩, .int .i64 0]), 4, 40) := by kernel_rfl
end Go.Proofs.YtbfbgdinhiglaaaGreat.bt
namespace Go.Proofs.YtbfbgdinhiglaaaGreat.bt
open Go.ChangeShapes Go.WideShapes Go.ChangeAt Go.RowKit Go.Maps Go.WideMaps
open vl pl
set_option linter.unusedVariables false
set_option linter.unusedSimpArgs false
end Go.Proofs.YtbfbgdinhiglaaaGreat.bt
namespace Go.Proofs.YtbfbgdinhiglaaaGreat.bt
open Go.ChangeShapes Go.WideShapes Go.ChangeAt Go.RowKit
open vl pl
set_option linter.unusedVariables false
set_option linter.unusedSimpArgs false
theorem cmpC_in (c d : Cel) : cmpC c d = -1 ∨ cmpC c d = 0 ∨ cmpC c d = 1 := by
 have h1 : ∀ x y : Int, ordI x y = -1 ∨ ordI x y = 0 ∨ ordI x y = 1 := fun x y => by
  unfold ordI
  by_cases h1 : x < y
  ·rw [if_pos h1]; exact .inl rfl
  ·rw [if_neg h1]
   by_cases h2 : y < x
   ·rw [if_pos h2]; exact .inr (.inr rfl)
   ·rw [if_neg h2]; exact .inr (.inl rfl)
 rw [cmpC_of]
 split
 ·split
  ·rw [less_cmp]
   split
   ·exact .inl rfl
   ·split
    ·exact .inr (.inl rfl)
    ·exact .inr (.inr rfl)
  ·exact h1 _ _
 ·exact h1 _ _
set_option maxRecDepth 10000 in
set_option maxHeartbeats 1000000 in
theorem rfig1 (a : Option Addr) (cap : Nat) (v : List ch.Cnt) (col : Int) (w : World) (hl : v.length ≤ 1073741824) (ha : ch.viewAt w a v) :
 Calls Tryz.prog 79 #[.agg #[.int .i64 1, .int .i64 col], .slice a v.length cap] w fun e w' => e = .returned (celV (⟨2, cntS v, ⟨#[]⟩⟩ : Cel)) ∧ Below w.heap.size w w' := by
 have HA : Hid (ch.viewAt w a v) := ha
 have HS : Hid (∀ k, k < v.length → cntS (v.take (k + 1)) = wrap64 (cntS (v.take k) + (v.getD k default).n)) := fun k h => foldl_take _ _ v k h
 have H0 : Hid (cntS (v.take 0) = 0) := rfl
 have HE : Hid (cntS (v.take v.length) = cntS v) := by show cntS _ = _; rw [List.take_length]
 obtain ⟨CS, hCS⟩ : ∃ f : Nat → Int, ∀ k, cntS (v.take k) = f k := ⟨_, fun _ => rfl⟩
 obtain ⟨cs, hcs⟩ : ∃ z, cntS v = z := ⟨_, rfl⟩
 simp only [hCS, hcs] at HS H0 HE ⊢
 clear hCS hcs ha
 obtain ⟨n, hn⟩ : ∃ n, v.length = n := ⟨_, rfl⟩
 have HN : Hid (v.length = n) := hn
 rw [hn] at HS HE hl ⊢
 clear hn
 unfold celV
 dsimp only
 go_enter Tryz.func79, Tryz.ntmps79
 go_wp2
 generalize hW0 : (World.alloc (World.alloc w _) _) = W0
 have hb0 : Below w.heap.size w W0 := by rw [← hW0]; exact (bR.alloc nR _).alloc (by simp) _
 have r0 : W0.cell? ⟨w.heap.size + 1, 0, none⟩ = some (.int .i64 0) := by subst hW0; go_simp
 have r1 : W0.cell? ⟨w.heap.size + 1, 1, none⟩ = some (.int .i64 0) := by subst hW0; go_simp
 have r2 : W0.cell? ⟨w.heap.size + 1, 2, none⟩ = some (.string ⟨#[]⟩) := by subst hW0; go_simp
 have g0 : ∀ j, W0.frozen? ⟨w.heap.size + 1, j, none⟩ = false := by intro j; subst hW0; go_simp
 have hlt0 : w.heap.size + 1 < W0.heap.size := World.block_lt_of_cell? _ _ r0
 clear hW0
 go_loopw [5, 6] (fun s i wr => ∃ k : Nat, k ≤ n ∧ i = .int .i64 k ∧ s = .int .i64 (CS k) ∧ Below W0.heap.size W0 wr) (fun _ i _ => n - (intOf i).toNat)
 case atStart => exact ⟨0, Nat.zero_le _, rfl, by rw [H0.out], bR⟩
 case round =>
  obtain ⟨k, hk, rfl, rfl, hnx⟩ := hrel
  have hbr := hb0.trans (hnx.mono hb0.size)
  have hsz := hnx.size
  have c0 := cL hnx r0
  have c1 := cL hnx r1
  have c2 := cL hnx r2
  have f0 : ∀ j, wr.frozen? ⟨w.heap.size + 1, j, none⟩ = false := fun j => (hnx.frozen (p := ⟨w.heap.size + 1, j, none⟩) hlt0).trans (g0 j)
  by_cases hlt : k < n
  ·obtain ⟨b, o, ra, rc, e, x1, x2, x3⟩ := HA.out k (by rw [HN.out]; exact hlt)
   subst e
   have q3 := cL hbr x3
   have HS1 : Hid (CS (k + 1) = wrap64 (CS k + (v.getD k default).n)) := HS.out k hlt
   obtain ⟨m, hm⟩ : ∃ z, (v.getD k default).n = z := ⟨_, rfl⟩
   rw [hm] at q3 HS1
   have i1 : (0 : Int) ≤ (k : Int) := by omega
   have i2 : (k : Int) < (n : Int) := by omega
   clear x1 x2 x3 hm
   go_wp2
   go_roundw
   case rel => exact ⟨k + 1, by omega, by go_num, by rw [HS1.out], hnx⟩
   case measure => simp [intOf]; omega
  ·have hkn : k = n := by omega
   subst hkn
   have HE1 : Hid (CS k = cs) := HE.out
   go_wp2
   exact bodyPost_ret (v := .agg #[.int .i64 2, .int .i64 (CS k), .string ⟨#[]⟩]) (by simp [results, Tryz.results79, go_sem, c0, c1, c2]) rfl ⟨by rw [HE1.out], Below_set3 hbr (by omega) _ _ _⟩
set_option maxRecDepth 10000 in
set_option maxHeartbeats 4000000 in
theorem rfig2 (a : Option Addr) (cap : Nat) (v : List ch.Cnt) (col : Nat) (w : World) (hl : v.length ≤ 1073741824) (ha : ch.viewAt w a v) (hc : ∀ c ∈ v, col < c.r.length) (hcl : ∀ c ∈ v, c.r.length ≤ 9223372036854775807) (hk : ∀ c ∈ v, (c.r.getD col default).k = 0 ∨ (c.r.getD col default).k = 2) :
 Calls Tryz.prog 79 #[.agg #[.int .i64 2, .int .i64 (col : Int)], .slice a v.length cap] w fun e w' => e = .returned (celV (v.foldl (sumStep col) noCel)) ∧ Below w.heap.size w w' := by
 have HA : Hid (ch.viewAt w a v) := ha
 have HC : Hid (∀ k, k < v.length → col < (v.getD k default).r.length ∧ (v.getD k default).r.length ≤ 9223372036854775807) := fun k h => ⟨hc _ (getD_mem h), hcl _ (getD_mem h)⟩
 have HK : Hid (∀ k, k < v.length → ((v.getD k default).r.getD col default).k = 0 ∨ ((v.getD k default).r.getD col default).k = 2) := fun k h => hk _ (getD_mem h)
 have HS : Hid (∀ k, k < v.length → (v.take (k + 1)).foldl (sumStep col) noCel = sumStep col ((v.take k).foldl (sumStep col) noCel) (v.getD k default)) := fun k h => foldl_take _ _ v k h
 have H0 : Hid ((v.take 0).foldl (sumStep col) noCel = noCel) := rfl
 have HE : Hid ((v.take v.length).foldl (sumStep col) noCel = v.foldl (sumStep col) noCel) := by show (v.take v.length).foldl _ _ = _; rw [List.take_length]
 obtain ⟨CS, hCS⟩ : ∃ f : Nat → Cel, ∀ k, (v.take k).foldl (sumStep col) noCel = f k := ⟨_, fun _ => rfl⟩
 obtain ⟨cs, hcs⟩ : ∃ z, v.foldl (sumStep col) noCel = z := ⟨_, rfl⟩
 simp only [hCS, hcs] at HS H0 HE ⊢
 clear hCS hcs ha hc hcl
 obtain ⟨n, hn⟩ : ∃ n, v.length = n := ⟨_, rfl⟩
 have HN : Hid (v.length = n) := hn
 rw [hn] at HS HE hl HC ⊢
 clear hn
 unfold celV
 go_enter Tryz.func79, Tryz.ntmps79
 go_wp2
 generalize hW0 : (World.alloc (World.alloc (World.alloc w _) _) _) = W0
 have hb0 : Below w.heap.size w W0 := by rw [← hW0]; exact ((bR.alloc nR _).alloc (by simp) _).alloc (by simp; omega) _
 have a0 : W0.cell? ⟨w.heap.size, 0, none⟩ = some (.int .i64 2) := by subst hW0; go_simp
 have a1 : W0.cell? ⟨w.heap.size, 1, none⟩ = some (.int .i64 (col : Int)) := by subst hW0; go_simp
 have r0 : W0.cell? ⟨w.heap.size + 1, 0, none⟩ = some (.int .i64 0) := by subst hW0; go_simp
 have r1 : W0.cell? ⟨w.heap.size + 1, 1, none⟩ = some (.int .i64 0) := by subst hW0; go_simp
 have r2 : W0.cell? ⟨w.heap.size + 1, 2, none⟩ = some (.string ⟨#[]⟩) := by subst hW0; go_simp
 have g0 : ∀ j, W0.frozen? ⟨w.heap.size + 1, j, none⟩ = false := by intro j; subst hW0; go_simp
 have y0 : W0.cell? ⟨w.heap.size + 1 + 1, 0, none⟩ = some (.int .i64 0) := by subst hW0; go_simp
 have y1 : W0.cell? ⟨w.heap.size + 1 + 1, 1, none⟩ = some (.int .i64 0) := by subst hW0; go_simp
 have y2 : W0.cell? ⟨w.heap.size + 1 + 1, 2, none⟩ = some (.string ⟨#[]⟩) := by subst hW0; go_simp
 have g1 : ∀ j, W0.frozen? ⟨w.heap.size + 1 + 1, j, none⟩ = false := by intro j; subst hW0; go_simp
 have hlt0 : w.heap.size + 1 + 1 < W0.heap.size := World.block_lt_of_cell? _ _ y0
 have HB0 : Hid (Box3 (w.heap.size + 1 + 1) W0 noCel) := ⟨y0, y1, y2, g1⟩
 clear hW0 y0 y1 y2 g1
 go_loopw [8] (fun i wr => ∃ k : Nat, k ≤ n ∧ i = .int .i64 k ∧ Box3 (w.heap.size + 1 + 1) wr (CS k) ∧ Below (w.heap.size + 1 + 1) W0 wr) (fun i _ => n - (intOf i).toNat)
 case atStart => exact ⟨0, Nat.zero_le _, rfl, by rw [H0.out]; exact HB0.out, bR⟩
 case round =>
  obtain ⟨k, hk, rfl, hbox, hnx⟩ := hrel
  have HBX : Hid (Box3 (w.heap.size + 1 + 1) wr (CS k)) := hbox
  have hbr : Below w.heap.size w wr := hb0.trans (hnx.mono (by omega))
  have hsz := hnx.size
  have b0 : wr.cell? ⟨w.heap.size, 0, none⟩ = _ := (hnx.cell (p := ⟨w.heap.size, 0, none⟩) (by show w.heap.size < _; omega)).trans a0
  have b1 : wr.cell? ⟨w.heap.size, 1, none⟩ = _ := (hnx.cell (p := ⟨w.heap.size, 1, none⟩) (by show w.heap.size < _; omega)).trans a1
  have c0 : wr.cell? ⟨w.heap.size + 1, 0, none⟩ = _ := (hnx.cell (p := ⟨w.heap.size + 1, 0, none⟩) (by show w.heap.size + 1 < _; omega)).trans r0
  have c1 : wr.cell? ⟨w.heap.size + 1, 1, none⟩ = _ := (hnx.cell (p := ⟨w.heap.size + 1, 1, none⟩) (by show w.heap.size + 1 < _; omega)).trans r1
  have c2 : wr.cell? ⟨w.heap.size + 1, 2, none⟩ = _ := (hnx.cell (p := ⟨w.heap.size + 1, 2, none⟩) (by show w.heap.size + 1 < _; omega)).trans r2
  have f0 : ∀ j, wr.frozen? ⟨w.heap.size + 1, j, none⟩ = false := fun j => (hnx.frozen (p := ⟨w.heap.size + 1, j, none⟩) (by show w.heap.size + 1 < _; omega)).trans (g0 j)
  clear hbox
  by_cases hlt : k < n
  ·obtain ⟨b, o, ra, rc, e, x1, x2, x3⟩ := HA.out k (by rw [HN.out]; exact hlt)
   subst e
   obtain ⟨hcol, hrl⟩ := HC.out k hlt
   obtain ⟨b3, o3, e3, m1, m2, m3⟩ := x2 col hcol
   subst e3
   have q1 := cL hbr x1
   have q3 := cL hbr x3
   have p1 := cL hbr m1
   have p2 := cL hbr m2
   have p3 : wr.cell? ⟨b3, o3 + col * 3 + 2, none⟩ = _ := cL hbr m3
   have hbb : b < wr.heap.size := World.block_lt_of_cell? _ _ q1
   have hb3 : b3 < wr.heap.size := World.block_lt_of_cell? _ _ p1
   have hSA : w.heap.size < wr.heap.size := World.block_lt_of_cell? _ _ b0
   have i1 : (0 : Int) ≤ (k : Int) := by omega
   have i2 : (k : Int) < (n : Int) := by omega
   have j1 : (0 : Int) ≤ (col : Int) := by omega
   have j2 : (col : Int) < ((v.getD k default).r.length : Int) := by omega
   have HS1 : Hid (CS (k + 1) = sumStep col (CS k) (v.getD k default)) := HS.out k hlt
   have HK2 := HK.out k (by rw [HN.out]; exact hlt)
   unfold sumStep at HS1
   obtain ⟨m, hm⟩ : ∃ z, (v.getD k default).n = z := ⟨_, rfl⟩
   obtain ⟨⟨xk, xn, xs⟩, hx⟩ : ∃ z, (v.getD k default).r.getD col default = z := ⟨_, rfl⟩
   obtain ⟨rl, hrl'⟩ : ∃ z, (v.getD k default).r.length = z := ⟨_, rfl⟩
   rw [hx] at HS1 p1 p2 p3 HK2
   rw [hm] at HS1
   rw [hm] at q3
   rw [hrl'] at q1 j2
   obtain ⟨⟨sk, sn, ss⟩, hs⟩ : ∃ z, CS k = z := ⟨_, rfl⟩
   rw [hs] at HBX HS1
   dsimp only at p1 p2 p3 HS1 HK2
   clear hm hx hrl' hs x1 x2 x3 m1 m2 m3 hcol hrl
   go_wp2
   go_region
   all_goals
    generalize hWa : World.drew (World.alloc wr _) = Wa
    have hba : Below wr.heap.size wr Wa := by subst hWa; exact Below.drew (bR.alloc nR _)
    have d0 : Wa.cell? ⟨wr.heap.size, 0, none⟩ = some (.int .i64 xk) := by subst hWa; go_simp
    have d1 : Wa.cell? ⟨wr.heap.size, 1, none⟩ = some (.int .i64 xn) := by subst hWa; go_simp
    have d2 : Wa.cell? ⟨wr.heap.size, 2, none⟩ = some (.string xs) := by subst hWa; go_simp
    have HBA : Hid (Box3 (w.heap.size + 1 + 1) Wa ⟨sk, sn, ss⟩) := Box3_below HBX.out hba
    have z0 := HBA.out.k
    have z1 := HBA.out.n
    have z2 := HBA.out.s
    have zf := HBA.out.f
    dsimp only at z0 z1 z2
    have t0 := cL hba b0
    have q4 := cL hba q3
    have hna : Below (w.heap.size + 1 + 1) W0 Wa := hnx.trans (hba.mono (by omega))
    clear hWa b0 b1 c0 c1 c2 q1 q3 p1 p2 p3
    rcases HK2 with rfl | rfl
    ·have HS2 : Hid (CS (k + 1) = ⟨sk, sn, ss⟩) := by have := HS1.out; rw [if_neg (by decide)] at this; exact this
     go_wp2
     go_roundw
     case rel => exact ⟨k + 1, by omega, by go_num, by rw [HS2.out]; exact HBA.out, by repeat (first | exact hna | apply Below.drew | (refine Below_set3 ?_ nR _ _ _))⟩
     case measure => simp [intOf]; omega
    ·have HS2 : Hid (CS (k + 1) = ⟨2, wrap64 (sn + wrap64 (xn * m)), ⟨#[]⟩⟩) := by have := HS1.out; rw [if_pos rfl] at this; exact this
     go_wp2
     go_region
     all_goals
      go_wp2
      go_roundw
      case rel => exact ⟨k + 1, by omega, by go_num, by rw [HS2.out]; exact Box3_below (Box3_set HBA.out _ _ _) bR.drew, by repeat (first | exact hna | apply Below.drew | (refine Below_set3 ?_ nR _ _ _))⟩
      case measure => simp [intOf]; omega
  ·have hkn : k = n := by omega
   subst hkn
   have HE1 : Hid (CS k = cs) := HE.out
   have z0 := HBX.out.k
   have z1 := HBX.out.n
   have z2 := HBX.out.s
   go_wp2
   exact bodyPost_ret (v := .agg #[.int .i64 (CS k).k, .int .i64 (CS k).n, .string (CS k).s]) (by simp [results, Tryz.results79, go_sem, c0, c1, c2]) rfl ⟨by rw [HE1.out], Below_set3 hbr (by omega) _ _ _⟩
set_option maxRecDepth 10000 in
set_option maxHeartbeats 4000000 in
theorem rfig3 (a : Option Addr) (cap : Nat) (v : List ch.Cnt) (col : Nat) (w : World) (hl : v.length ≤ 1073741824) (ha : ch.viewAt w a v) (hc : ∀ c ∈ v, col < c.r.length) (hcl : ∀ c ∈ v, c.r.length ≤ 9223372036854775807) :
 Calls Tryz.prog 79 #[.agg #[.int .i64 3, .int .i64 (col : Int)], .slice a v.length cap] w fun e w' => e = .returned (celV (v.foldl (outStep col (-1)) noCel)) ∧ Below w.heap.size w w' := by
 have HA : Hid (ch.viewAt w a v) := ha
 have HC : Hid (∀ k, k < v.length → col < (v.getD k default).r.length ∧ (v.getD k default).r.length ≤ 9223372036854775807) := fun k h => ⟨hc _ (getD_mem h), hcl _ (getD_mem h)⟩
 have HS : Hid (∀ k, k < v.length → (v.take (k + 1)).foldl (outStep col (-1)) noCel = outStep col (-1) ((v.take k).foldl (outStep col (-1)) noCel) (v.getD k default)) := fun k h => foldl_take _ _ v k h
 have H0 : Hid ((v.take 0).foldl (outStep col (-1)) noCel = noCel) := rfl
 have HE : Hid ((v.take v.length).foldl (outStep col (-1)) noCel = v.foldl (outStep col (-1)) noCel) := by show (v.take v.length).foldl _ _ = _; rw [List.take_length]
 obtain ⟨CS, hCS⟩ : ∃ f : Nat → Cel, ∀ k, (v.take k).foldl (outStep col (-1)) noCel = f k := ⟨_, fun _ => rfl⟩
 obtain ⟨cs, hcs⟩ : ∃ z, v.foldl (outStep col (-1)) noCel = z := ⟨_, rfl⟩
 simp only [hCS, hcs] at HS H0 HE ⊢
 clear hCS hcs ha hc hcl
 obtain ⟨n, hn⟩ : ∃ n, v.length = n := ⟨_, rfl⟩
 have HN : Hid (v.length = n) := hn
 rw [hn] at HS HE hl HC ⊢
 clear hn
 unfold celV
 go_enter Tryz.func79, Tryz.ntmps79
 go_wp2
 generalize hW0 : (World.alloc (World.alloc (World.alloc w _) _) _) = W0
 have hb0 : Below w.heap.size w W0 := by rw [← hW0]; exact ((bR.alloc nR _).alloc (by simp) _).alloc (by simp; omega) _
 have a0 : W0.cell? ⟨w.heap.size, 0, none⟩ = some (.int .i64 3) := by subst hW0; go_simp
 have a1 : W0.cell? ⟨w.heap.size, 1, none⟩ = some (.int .i64 (col : Int)) := by subst hW0; go_simp
 have r0 : W0.cell? ⟨w.heap.size + 1, 0, none⟩ = some (.int .i64 0) := by subst hW0; go_simp
 have r1 : W0.cell? ⟨w.heap.size + 1, 1, none⟩ = some (.int .i64 0) := by subst hW0; go_simp
 have r2 : W0.cell? ⟨w.heap.size + 1, 2, none⟩ = some (.string ⟨#[]⟩) := by subst hW0; go_simp
 have g0 : ∀ j, W0.frozen? ⟨w.heap.size + 1, j, none⟩ = false := by intro j; subst hW0; go_simp
 have y0 : W0.cell? ⟨w.heap.size + 1 + 1, 0, none⟩ = some (.int .i64 0) := by subst hW0; go_simp
 have y1 : W0.cell? ⟨w.heap.size + 1 + 1, 1, none⟩ = some (.int .i64 0) := by subst hW0; go_simp
 have y2 : W0.cell? ⟨w.heap.size + 1 + 1, 2, none⟩ = some (.string ⟨#[]⟩) := by subst hW0; go_simp
 have g1 : ∀ j, W0.frozen? ⟨w.heap.size + 1 + 1, j, none⟩ = false := by intro j; subst hW0; go_simp
 have hlt0 : w.heap.size + 1 + 1 < W0.heap.size := World.block_lt_of_cell? _ _ y0
 have HB0 : Hid (Box3 (w.heap.size + 1 + 1) W0 noCel) := ⟨y0, y1, y2, g1⟩
 clear hW0 y0 y1 y2 g1
 go_loopw [8] (fun i wr => ∃ k : Nat, k ≤ n ∧ i = .int .i64 k ∧ Box3 (w.heap.size + 1 + 1) wr (CS k) ∧ Below (w.heap.size + 1 + 1) W0 wr) (fun i _ => n - (intOf i).toNat)
 case atStart => exact ⟨0, Nat.zero_le _, rfl, by rw [H0.out]; exact HB0.out, bR⟩
 case round =>
  obtain ⟨k, hk, rfl, hbox, hnx⟩ := hrel
  have HBX : Hid (Box3 (w.heap.size + 1 + 1) wr (CS k)) := hbox
  have hbr : Below w.heap.size w wr := hb0.trans (hnx.mono (by omega))
  have hsz := hnx.size
  have b0 : wr.cell? ⟨w.heap.size, 0, none⟩ = _ := (hnx.cell (p := ⟨w.heap.size, 0, none⟩) (by show w.heap.size < _; omega)).trans a0
  have b1 : wr.cell? ⟨w.heap.size, 1, none⟩ = _ := (hnx.cell (p := ⟨w.heap.size, 1, none⟩) (by show w.heap.size < _; omega)).trans a1
  have c0 : wr.cell? ⟨w.heap.size + 1, 0, none⟩ = _ := (hnx.cell (p := ⟨w.heap.size + 1, 0, none⟩) (by show w.heap.size + 1 < _; omega)).trans r0
  have c1 : wr.cell? ⟨w.heap.size + 1, 1, none⟩ = _ := (hnx.cell (p := ⟨w.heap.size + 1, 1, none⟩) (by show w.heap.size + 1 < _; omega)).trans r1
  have c2 : wr.cell? ⟨w.heap.size + 1, 2, none⟩ = _ := (hnx.cell (p := ⟨w.heap.size + 1, 2, none⟩) (by show w.heap.size + 1 < _; omega)).trans r2
  have f0 : ∀ j, wr.frozen? ⟨w.heap.size + 1, j, none⟩ = false := fun j => (hnx.frozen (p := ⟨w.heap.size + 1, j, none⟩) (by show w.heap.size + 1 < _; omega)).trans (g0 j)
  clear hbox
  by_cases hlt : k < n
  ·obtain ⟨b, o, ra, rc, e, x1, x2, x3⟩ := HA.out k (by rw [HN.out]; exact hlt)
   subst e
   obtain ⟨hcol, hrl⟩ := HC.out k hlt
   obtain ⟨b3, o3, e3, m1, m2, m3⟩ := x2 col hcol
   subst e3
   have q1 := cL hbr x1
   have q3 := cL hbr x3
   have p1 := cL hbr m1
   have p2 := cL hbr m2
   have p3 : wr.cell? ⟨b3, o3 + col * 3 + 2, none⟩ = _ := cL hbr m3
   have hbb : b < wr.heap.size := World.block_lt_of_cell? _ _ q1
   have hb3 : b3 < wr.heap.size := World.block_lt_of_cell? _ _ p1
   have hSA : w.heap.size < wr.heap.size := World.block_lt_of_cell? _ _ b0
   have i1 : (0 : Int) ≤ (k : Int) := by omega
   have i2 : (k : Int) < (n : Int) := by omega
   have j1 : (0 : Int) ≤ (col : Int) := by omega
   have j2 : (col : Int) < ((v.getD k default).r.length : Int) := by omega
   have HS1 : Hid (CS (k + 1) = outStep col (-1) (CS k) (v.getD k default)) := HS.out k hlt
   unfold outStep at HS1
   obtain ⟨m, hm⟩ : ∃ z, (v.getD k default).n = z := ⟨_, rfl⟩
   obtain ⟨⟨xk, xn, xs⟩, hx⟩ : ∃ z, (v.getD k default).r.getD col default = z := ⟨_, rfl⟩
   obtain ⟨rl, hrl'⟩ : ∃ z, (v.getD k default).r.length = z := ⟨_, rfl⟩
   rw [hx] at HS1 p1 p2 p3
   rw [hm] at q3
   rw [hrl'] at q1 j2
   obtain ⟨⟨sk, sn, ss⟩, hs⟩ : ∃ z, CS k = z := ⟨_, rfl⟩
   rw [hs] at HBX HS1
   dsimp only at p1 p2 p3 HS1
   clear hm hx hrl' hs x1 x2 x3 m1 m2 m3 hcol hrl
   go_wp2
   go_region
   all_goals
    generalize hWa : World.drew (World.alloc wr _) = Wa
    have hba : Below wr.heap.size wr Wa := by subst hWa; exact Below.drew (bR.alloc nR _)
    have d0 : Wa.cell? ⟨wr.heap.size, 0, none⟩ = some (.int .i64 xk) := by subst hWa; go_simp
    have d1 : Wa.cell? ⟨wr.heap.size, 1, none⟩ = some (.int .i64 xn) := by subst hWa; go_simp
    have d2 : Wa.cell? ⟨wr.heap.size, 2, none⟩ = some (.string xs) := by subst hWa; go_simp
    have HBA : Hid (Box3 (w.heap.size + 1 + 1) Wa ⟨sk, sn, ss⟩) := Box3_below HBX.out hba
    have z0 := HBA.out.k
    have z1 := HBA.out.n
    have z2 := HBA.out.s
    have zf := HBA.out.f
    dsimp only at z0 z1 z2
    have t0 := cL hba b0
    have q4 := cL hba q3
    have hna : Below (w.heap.size + 1 + 1) W0 Wa := hnx.trans (hba.mono (by omega))
    clear hWa b0 b1 c0 c1 c2 q1 q3 p1 p2 p3
    have KC : Hid (∀ w1, Calls Tryz.prog 63 #[.agg #[.int .i64 xk, .int .i64 xn, .string xs], .agg #[.int .i64 sk, .int .i64 sn, .string ss]] w1 fun e w' => e = .returned (.int .i64 (cmpC ⟨xk, xn, xs⟩ ⟨sk, sn, ss⟩)) ∧ Below w1.heap.size w1 w') := fun w1 => rcompare_any xk xn xs sk sn ss w1
    have hin := cmpC_in ⟨xk, xn, xs⟩ ⟨sk, sn, ss⟩
    obtain ⟨cv, hcv⟩ : ∃ z, cmpC ⟨xk, xn, xs⟩ ⟨sk, sn, ss⟩ = z := ⟨_, rfl⟩
    rw [hcv] at HS1 KC hin
    clear hcv
    by_cases h2 : xk = 0
    ·subst h2
     have HS2 : Hid (CS (k + 1) = ⟨sk, sn, ss⟩) := by have := HS1.out; rw [if_pos rfl] at this; exact this
     go_wp2
     go_roundw
     case rel => exact ⟨k + 1, by omega, by go_num, by rw [HS2.out]; exact HBA.out, by repeat (first | exact hna | apply Below.drew | (refine Below_set3 ?_ nR _ _ _))⟩
     case measure => simp [intOf]; omega
    ·have h2' : (xk == 0) = false := by rw [beq_eq_false_iff_ne]; exact h2
     have HS3 : Hid (CS (k + 1) = if sk = 0 ∨ cv = -1 then ⟨xk, xn, xs⟩ else ⟨sk, sn, ss⟩) := by have := HS1.out; rw [if_neg h2] at this; exact this
     by_cases h3 : sk = 0
     ·subst h3
      have HS2 : Hid (CS (k + 1) = ⟨xk, xn, xs⟩) := by have := HS3.out; rw [if_pos (.inl rfl)] at this; exact this
      go_wp2
      go_roundw
      case rel => exact ⟨k + 1, by omega, by go_num, by rw [HS2.out]; exact Box3_set HBA.out _ _ _, by repeat (first | exact hna | apply Below.drew | (refine Below_set3 ?_ nR _ _ _))⟩
      case measure => simp [intOf]; omega
     ·have h3' : (sk == 0) = false := by rw [beq_eq_false_iff_ne]; exact h3
      by_cases h4 : cv = -1
      ·have HS2 : Hid (CS (k + 1) = ⟨xk, xn, xs⟩) := by have := HS3.out; rw [if_pos (.inr h4)] at this; exact this
       have h4' : decide (cv < 0) = true := decide_eq_true (by omega)
       clear HS3 h3 h4 hin
       go_wp2_with fail
       refine (KC.out _).mono ?_
       rintro e w1 ⟨rfl, hb1⟩
       have HB1 : Hid (Box3 (w.heap.size + 1 + 1) w1 ⟨sk, sn, ss⟩) := Box3_below HBA.out hb1
       have zz0 := HB1.out.k
       have zz1 := HB1.out.n
       have zz2 := HB1.out.s
       have zzf := HB1.out.f
       dsimp only at zz0 zz1 zz2
       have dd0 := cL hb1 d0
       have dd1 := cL hb1 d1
       have dd2 := cL hb1 d2
       have tt0 := cL hb1 t0
       have hn2 : Below (w.heap.size + 1 + 1) W0 w1 := hna.trans (hb1.mono (by have := hna.size; omega))
       go_wp2
       go_roundw
       case rel => exact ⟨k + 1, by omega, by go_num, by rw [HS2.out]; exact Box3_set HB1.out _ _ _, by repeat (first | exact hna | exact hn2 | apply Below.drew | (refine Below_set3 ?_ nR _ _ _))⟩
       case measure => simp [intOf]; omega
      ·have HS2 : Hid (CS (k + 1) = ⟨sk, sn, ss⟩) := by have := HS3.out; rw [if_neg (fun h => h.elim h3 h4)] at this; exact this
       have h4' : decide (cv < 0) = false := decide_eq_false (by omega)
       clear HS3 h3 h4 hin
       go_wp2_with fail
       refine (KC.out _).mono ?_
       rintro e w1 ⟨rfl, hb1⟩
       have HB1 : Hid (Box3 (w.heap.size + 1 + 1) w1 ⟨sk, sn, ss⟩) := Box3_below HBA.out hb1
       have zz0 := HB1.out.k
       have zz1 := HB1.out.n
       have zz2 := HB1.out.s
       have zzf := HB1.out.f
       dsimp only at zz0 zz1 zz2
       have dd0 := cL hb1 d0
       have dd1 := cL hb1 d1
       have dd2 := cL hb1 d2
       have tt0 := cL hb1 t0
       have hn2 : Below (w.heap.size + 1 + 1) W0 w1 := hna.trans (hb1.mono (by have := hna.size; omega))
       go_wp2
       go_roundw
       case rel => exact ⟨k + 1, by omega, by go_num, by rw [HS2.out]; exact HB1.out, by repeat (first | exact hna | exact hn2 | apply Below.drew | (refine Below_set3 ?_ nR _ _ _))⟩
       case measure => simp [intOf]; omega
  ·have hkn : k = n := by omega
   subst hkn
   have HE1 : Hid (CS k = cs) := HE.out
   have z0 := HBX.out.k
   have z1 := HBX.out.n
   have z2 := HBX.out.s
   go_wp2
   exact bodyPost_ret (v := .agg #[.int .i64 (CS k).k, .int .i64 (CS k).n, .string (CS k).s]) (by simp [results, Tryz.results79, go_sem, c0, c1, c2]) rfl ⟨by rw [HE1.out], Below_set3 hbr (by omega) _ _ _⟩
set_option maxRecDepth 10000 in
set_option maxHeartbeats 4000000 in
theorem rfig4 (a : Option Addr) (cap : Nat) (v : List ch.Cnt) (col : Nat) (w : World) (hl : v.length ≤ 1073741824) (ha : ch.viewAt w a v) (hc : ∀ c ∈ v, col < c.r.length) (hcl : ∀ c ∈ v, c.r.length ≤ 9223372036854775807) :
 Calls Tryz.prog 79 #[.agg #[.int .i64 4, .int .i64 (col : Int)], .slice a v.length cap] w fun e w' => e = .returned (celV (v.foldl (outStep col 1) noCel)) ∧ Below w.heap.size w w' := by
 have HA : Hid (ch.viewAt w a v) := ha
 have HC : Hid (∀ k, k < v.length → col < (v.getD k default).r.length ∧ (v.getD k default).r.length ≤ 9223372036854775807) := fun k h => ⟨hc _ (getD_mem h), hcl _ (getD_mem h)⟩
 have HS : Hid (∀ k, k < v.length → (v.take (k + 1)).foldl (outStep col 1) noCel = outStep col 1 ((v.take k).foldl (outStep col 1) noCel) (v.getD k default)) := fun k h => foldl_take _ _ v k h
 have H0 : Hid ((v.take 0).foldl (outStep col 1) noCel = noCel) := rfl
 have HE : Hid ((v.take v.length).foldl (outStep col 1) noCel = v.foldl (outStep col 1) noCel) := by show (v.take v.length).foldl _ _ = _; rw [List.take_length]
 obtain ⟨CS, hCS⟩ : ∃ f : Nat → Cel, ∀ k, (v.take k).foldl (outStep col 1) noCel = f k := ⟨_, fun _ => rfl⟩
 obtain ⟨cs, hcs⟩ : ∃ z, v.foldl (outStep col 1) noCel = z := ⟨_, rfl⟩
 simp only [hCS, hcs] at HS H0 HE ⊢
 clear hCS hcs ha hc hcl
 obtain ⟨n, hn⟩ : ∃ n, v.length = n := ⟨_, rfl⟩
 have HN : Hid (v.length = n) := hn
 rw [hn] at HS HE hl HC ⊢
 clear hn
 unfold celV
 go_enter Tryz.func79, Tryz.ntmps79
 go_wp2
 generalize hW0 : (World.alloc (World.alloc (World.alloc w _) _) _) = W0
 have hb0 : Below w.heap.size w W0 := by rw [← hW0]; exact ((bR.alloc nR _).alloc (by simp) _).alloc (by simp; omega) _
 have a0 : W0.cell? ⟨w.heap.size, 0, none⟩ = some (.int .i64 4) := by subst hW0; go_simp
 have a1 : W0.cell? ⟨w.heap.size, 1, none⟩ = some (.int .i64 (col : Int)) := by subst hW0; go_simp
 have r0 : W0.cell? ⟨w.heap.size + 1, 0, none⟩ = some (.int .i64 0) := by subst hW0; go_simp
 have r1 : W0.cell? ⟨w.heap.size + 1, 1, none⟩ = some (.int .i64 0) := by subst hW0; go_simp
 have r2 : W0.cell? ⟨w.heap.size + 1, 2, none⟩ = some (.string ⟨#[]⟩) := by subst hW0; go_simp
 have g0 : ∀ j, W0.frozen? ⟨w.heap.size + 1, j, none⟩ = false := by intro j; subst hW0; go_simp
 have y0 : W0.cell? ⟨w.heap.size + 1 + 1, 0, none⟩ = some (.int .i64 0) := by subst hW0; go_simp
 have y1 : W0.cell? ⟨w.heap.size + 1 + 1, 1, none⟩ = some (.int .i64 0) := by subst hW0; go_simp
 have y2 : W0.cell? ⟨w.heap.size + 1 + 1, 2, none⟩ = some (.string ⟨#[]⟩) := by subst hW0; go_simp
 have g1 : ∀ j, W0.frozen? ⟨w.heap.size + 1 + 1, j, none⟩ = false := by intro j; subst hW0; go_simp
 have hlt0 : w.heap.size + 1 + 1 < W0.heap.size := World.block_lt_of_cell? _ _ y0
 have HB0 : Hid (Box3 (w.heap.size + 1 + 1) W0 noCel) := ⟨y0, y1, y2, g1⟩
 clear hW0 y0 y1 y2 g1
 go_loopw [8] (fun i wr => ∃ k : Nat, k ≤ n ∧ i = .int .i64 k ∧ Box3 (w.heap.size + 1 + 1) wr (CS k) ∧ Below (w.heap.size + 1 + 1) W0 wr) (fun i _ => n - (intOf i).toNat)
 case atStart => exact ⟨0, Nat.zero_le _, rfl, by rw [H0.out]; exact HB0.out, bR⟩
 case round =>
  obtain ⟨k, hk, rfl, hbox, hnx⟩ := hrel
  have HBX : Hid (Box3 (w.heap.size + 1 + 1) wr (CS k)) := hbox
  have hbr : Below w.heap.size w wr := hb0.trans (hnx.mono (by omega))
  have hsz := hnx.size
  have b0 : wr.cell? ⟨w.heap.size, 0, none⟩ = _ := (hnx.cell (p := ⟨w.heap.size, 0, none⟩) (by show w.heap.size < _; omega)).trans a0
  have b1 : wr.cell? ⟨w.heap.size, 1, none⟩ = _ := (hnx.cell (p := ⟨w.heap.size, 1, none⟩) (by show w.heap.size < _; omega)).trans a1
  have c0 : wr.cell? ⟨w.heap.size + 1, 0, none⟩ = _ := (hnx.cell (p := ⟨w.heap.size + 1, 0, none⟩) (by show w.heap.size + 1 < _; omega)).trans r0
  have c1 : wr.cell? ⟨w.heap.size + 1, 1, none⟩ = _ := (hnx.cell (p := ⟨w.heap.size + 1, 1, none⟩) (by show w.heap.size + 1 < _; omega)).trans r1
  have c2 : wr.cell? ⟨w.heap.size + 1, 2, none⟩ = _ := (hnx.cell (p := ⟨w.heap.size + 1, 2, none⟩) (by show w.heap.size + 1 < _; omega)).trans r2
  have f0 : ∀ j, wr.frozen? ⟨w.heap.size + 1, j, none⟩ = false := fun j => (hnx.frozen (p := ⟨w.heap.size + 1, j, none⟩) (by show w.heap.size + 1 < _; omega)).trans (g0 j)
  clear hbox
  by_cases hlt : k < n
  ·obtain ⟨b, o, ra, rc, e, x1, x2, x3⟩ := HA.out k (by rw [HN.out]; exact hlt)
   subst e
   obtain ⟨hcol, hrl⟩ := HC.out k hlt
   obtain ⟨b3, o3, e3, m1, m2, m3⟩ := x2 col hcol
   subst e3
   have q1 := cL hbr x1
   have q3 := cL hbr x3
   have p1 := cL hbr m1
   have p2 := cL hbr m2
   have p3 : wr.cell? ⟨b3, o3 + col * 3 + 2, none⟩ = _ := cL hbr m3
   have hbb : b < wr.heap.size := World.block_lt_of_cell? _ _ q1
   have hb3 : b3 < wr.heap.size := World.block_lt_of_cell? _ _ p1
   have hSA : w.heap.size < wr.heap.size := World.block_lt_of_cell? _ _ b0
   have i1 : (0 : Int) ≤ (k : Int) := by omega
   have i2 : (k : Int) < (n : Int) := by omega
   have j1 : (0 : Int) ≤ (col : Int) := by omega
   have j2 : (col : Int) < ((v.getD k default).r.length : Int) := by omega
   have HS1 : Hid (CS (k + 1) = outStep col 1 (CS k) (v.getD k default)) := HS.out k hlt
   unfold outStep at HS1
   obtain ⟨m, hm⟩ : ∃ z, (v.getD k default).n = z := ⟨_, rfl⟩
   obtain ⟨⟨xk, xn, xs⟩, hx⟩ : ∃ z, (v.getD k default).r.getD col default = z := ⟨_, rfl⟩
   obtain ⟨rl, hrl'⟩ : ∃ z, (v.getD k default).r.length = z := ⟨_, rfl⟩
   rw [hx] at HS1 p1 p2 p3
   rw [hm] at q3
   rw [hrl'] at q1 j2
   obtain ⟨⟨sk, sn, ss⟩, hs⟩ : ∃ z, CS k = z := ⟨_, rfl⟩
   rw [hs] at HBX HS1
   dsimp only at p1 p2 p3 HS1
   clear hm hx hrl' hs x1 x2 x3 m1 m2 m3 hcol hrl
   go_wp2
   go_region
   all_goals
    generalize hWa : World.drew (World.alloc wr _) = Wa
    have hba : Below wr.heap.size wr Wa := by subst hWa; exact Below.drew (bR.alloc nR _)
    have d0 : Wa.cell? ⟨wr.heap.size, 0, none⟩ = some (.int .i64 xk) := by subst hWa; go_simp
    have d1 : Wa.cell? ⟨wr.heap.size, 1, none⟩ = some (.int .i64 xn) := by subst hWa; go_simp
    have d2 : Wa.cell? ⟨wr.heap.size, 2, none⟩ = some (.string xs) := by subst hWa; go_simp
    have HBA : Hid (Box3 (w.heap.size + 1 + 1) Wa ⟨sk, sn, ss⟩) := Box3_below HBX.out hba
    have z0 := HBA.out.k
    have z1 := HBA.out.n
    have z2 := HBA.out.s
    have zf := HBA.out.f
    dsimp only at z0 z1 z2
    have t0 := cL hba b0
    have q4 := cL hba q3
    have hna : Below (w.heap.size + 1 + 1) W0 Wa := hnx.trans (hba.mono (by omega))
    clear hWa b0 b1 c0 c1 c2 q1 q3 p1 p2 p3
    have KC : Hid (∀ w1, Calls Tryz.prog 63 #[.agg #[.int .i64 xk, .int .i64 xn, .string xs], .agg #[.int .i64 sk, .int .i64 sn, .string ss]] w1 fun e w' => e = .returned (.int .i64 (cmpC ⟨xk, xn, xs⟩ ⟨sk, sn, ss⟩)) ∧ Below w1.heap.size w1 w') := fun w1 => rcompare_any xk xn xs sk sn ss w1
    have hin := cmpC_in ⟨xk, xn, xs⟩ ⟨sk, sn, ss⟩
    obtain ⟨cv, hcv⟩ : ∃ z, cmpC ⟨xk, xn, xs⟩ ⟨sk, sn, ss⟩ = z := ⟨_, rfl⟩
    rw [hcv] at HS1 KC hin
    clear hcv
    by_cases h2 : xk = 0
    ·subst h2
     have HS2 : Hid (CS (k + 1) = ⟨sk, sn, ss⟩) := by have := HS1.out; rw [if_pos rfl] at this; exact this
     go_wp2
     go_roundw
     case rel => exact ⟨k + 1, by omega, by go_num, by rw [HS2.out]; exact HBA.out, by repeat (first | exact hna | apply Below.drew | (refine Below_set3 ?_ nR _ _ _))⟩
     case measure => simp [intOf]; omega
    ·have h2' : (xk == 0) = false := by rw [beq_eq_false_iff_ne]; exact h2
     have HS3 : Hid (CS (k + 1) = if sk = 0 ∨ cv = 1 then ⟨xk, xn, xs⟩ else ⟨sk, sn, ss⟩) := by have := HS1.out; rw [if_neg h2] at this; exact this
     by_cases h3 : sk = 0
     ·subst h3
      have HS2 : Hid (CS (k + 1) = ⟨xk, xn, xs⟩) := by have := HS3.out; rw [if_pos (.inl rfl)] at this; exact this
      go_wp2
      go_roundw
      case rel => exact ⟨k + 1, by omega, by go_num, by rw [HS2.out]; exact Box3_set HBA.out _ _ _, by repeat (first | exact hna | apply Below.drew | (refine Below_set3 ?_ nR _ _ _))⟩
      case measure => simp [intOf]; omega
     ·have h3' : (sk == 0) = false := by rw [beq_eq_false_iff_ne]; exact h3
      by_cases h4 : cv = 1
      ·have HS2 : Hid (CS (k + 1) = ⟨xk, xn, xs⟩) := by have := HS3.out; rw [if_pos (.inr h4)] at this; exact this
       have h4' : decide (cv > 0) = true := decide_eq_true (by omega)
       clear HS3 h3 h4 hin
       go_wp2_with fail
       refine (KC.out _).mono ?_
       rintro e w1 ⟨rfl, hb1⟩
       have HB1 : Hid (Box3 (w.heap.size + 1 + 1) w1 ⟨sk, sn, ss⟩) := Box3_below HBA.out hb1
       have zz0 := HB1.out.k
       have zz1 := HB1.out.n
       have zz2 := HB1.out.s
       have zzf := HB1.out.f
       dsimp only at zz0 zz1 zz2
       have dd0 := cL hb1 d0
       have dd1 := cL hb1 d1
       have dd2 := cL hb1 d2
       have tt0 := cL hb1 t0
       have hn2 : Below (w.heap.size + 1 + 1) W0 w1 := hna.trans (hb1.mono (by have := hna.size; omega))
       go_wp2
       go_roundw
       case rel => exact ⟨k + 1, by omega, by go_num, by rw [HS2.out]; exact Box3_set HB1.out _ _ _, by repeat (first | exact hna | exact hn2 | apply Below.drew | (refine Below_set3 ?_ nR _ _ _))⟩
       case measure => simp [intOf]; omega
      ·have HS2 : Hid (CS (k + 1) = ⟨sk, sn, ss⟩) := by have := HS3.out; rw [if_neg (fun h => h.elim h3 h4)] at this; exact this
       have h4' : decide (cv > 0) = false := decide_eq_false (by omega)
       clear HS3 h3 h4 hin
       go_wp2_with fail
       refine (KC.out _).mono ?_
       rintro e w1 ⟨rfl, hb1⟩
       have HB1 : Hid (Box3 (w.heap.size + 1 + 1) w1 ⟨sk, sn, ss⟩) := Box3_below HBA.out hb1
       have zz0 := HB1.out.k
       have zz1 := HB1.out.n
       have zz2 := HB1.out.s
       have zzf := HB1.out.f
       dsimp only at zz0 zz1 zz2
       have dd0 := cL hb1 d0
       have dd1 := cL hb1 d1
       have dd2 := cL hb1 d2
       have tt0 := cL hb1 t0
       have hn2 : Below (w.heap.size + 1 + 1) W0 w1 := hna.trans (hb1.mono (by have := hna.size; omega))
       go_wp2
       go_roundw
       case rel => exact ⟨k + 1, by omega, by go_num, by rw [HS2.out]; exact HB1.out, by repeat (first | exact hna | exact hn2 | apply Below.drew | (refine Below_set3 ?_ nR _ _ _))⟩
       case measure => simp [intOf]; omega
  ·have hkn : k = n := by omega
   subst hkn
   have HE1 : Hid (CS k = cs) := HE.out
   have z0 := HBX.out.k
   have z1 := HBX.out.n
   have z2 := HBX.out.s
   go_wp2
   exact bodyPost_ret (v := .agg #[.int .i64 (CS k).k, .int .i64 (CS k).n, .string (CS k).s]) (by simp [results, Tryz.results79, go_sem, c0, c1, c2]) rfl ⟨by rw [HE1.out], Below_set3 hbr (by omega) _ _ _⟩
theorem rfigure_any (a : Option Addr) (cap : Nat) (v : List ch.Cnt) (ag : Int × Int) (w : World) (hl : v.length ≤ 1073741824) (ha : ch.viewAt w a v) (hag : 1 ≤ ag.1 ∧ ag.1 ≤ 4) (hc : ag.1 ≠ 1 → 0 ≤ ag.2 ∧ ∀ c ∈ v, ag.2.toNat < c.r.length) (hcl : ∀ c ∈ v, c.r.length ≤ 9223372036854775807) (hk : ag.1 = 2 → ∀ c ∈ v, (c.r.getD ag.2.toNat default).k = 0 ∨ (c.r.getD ag.2.toNat default).k = 2) :
 Calls Tryz.prog 79 #[.agg #[.int .i64 ag.1, .int .i64 ag.2], .slice a v.length cap] w fun e w' => e = .returned (celV (figC ag v)) ∧ Below w.heap.size w w' := by
 obtain ⟨fn, col⟩ := ag
 dsimp only at hag hc hk ⊢
 unfold figC
 dsimp only
 have h4 : fn = 1 ∨ fn = 2 ∨ fn = 3 ∨ fn = 4 := by omega
 rcases h4 with rfl | rfl | rfl | rfl
 ·rw [if_pos rfl]
  exact rfig1 a cap v col w hl ha
 ·rw [if_neg (by decide), if_pos rfl]
  have h2 := hc (by decide)
  have := rfig2 a cap v col.toNat w hl ha h2.2 hcl (hk rfl)
  rwa [Int.toNat_of_nonneg h2.1] at this
 ·rw [if_neg (by decide), if_neg (by decide), if_pos rfl]
  have h2 := hc (by decide)
  have := rfig3 a cap v col.toNat w hl ha h2.2 hcl
  rwa [Int.toNat_of_nonneg h2.1] at this
 ·rw [if_neg (by decide), if_neg (by decide), if_neg (by decide)]
  have h2 := hc (by decide)
  have := rfig4 a cap v col.toNat w hl ha h2.2 hcl
  rwa [Int.toNat_of_nonneg h2.1] at this
end Go.Proofs.YtbfbgdinhiglaaaGreat.bt
