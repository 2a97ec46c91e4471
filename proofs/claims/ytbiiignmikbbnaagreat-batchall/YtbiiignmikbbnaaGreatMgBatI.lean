/- Several texts in one: BatFig, BatGS. -/
import Derived.Test.YtbiiignmikbbnaaGreatMgBatB
import Derived.Test.YtbiiignmikbbnaaGreatMgValA
import Derived.Test.YtbiiignmikbbnaaGreatMgChgF
import Derived.Maps.OwnSet
/- What a group's rows come to (E4): countOf, sumOf, outermost, figure. -/
namespace Go.Proofs.YtbiiignmikbbnaaGreat.bt
open Go.ChangeShapes Go.WideShapes Go.ChangeAt Go.RowKit
open vl pl
set_option linter.unusedVariables false
set_option linter.unusedSimpArgs false
def noCel : Cel := ⟨0, 0, ⟨#[]⟩⟩
def cntS (v : List ch.Cnt) : Int := v.foldl (fun s c => wrap64 (s + c.n)) 0
def sumStep (col : Nat) (b : Cel) (c : ch.Cnt) : Cel := if (c.r.getD col default).k = 2 then ⟨2, wrap64 (b.n + wrap64 ((c.r.getD col default).n * c.n)), ⟨#[]⟩⟩ else b
def outStep (col : Nat) (way : Int) (b : Cel) (c : ch.Cnt) : Cel := if (c.r.getD col default).k = 0 then b else if b.k = 0 ∨ cmpC (c.r.getD col default) b = way then c.r.getD col default else b
/-- E4: a figure of these rows -/
def figC (a : Int × Int) (v : List ch.Cnt) : Cel :=
  if a.1 = 1 then ⟨2, cntS v, ⟨#[]⟩⟩ else if a.1 = 2 then v.foldl (sumStep a.2.toNat) noCel else if a.1 = 3 then v.foldl (outStep a.2.toNat (-1)) noCel else v.foldl (outStep a.2.toNat 1) noCel
theorem take_c (v : List ch.Cnt) (k : Nat) (h : k < v.length) : v.take (k + 1) = v.take k ++ [v.getD k default] := by
  rw [List.take_succ_eq_append_getElem h]; simp [List.getD_eq_getElem?_getD, h]
theorem foldl_take {β : Type} (f : β → ch.Cnt → β) (b : β) (v : List ch.Cnt) (k : Nat) (h : k < v.length) : (v.take (k + 1)).foldl f b = f ((v.take k).foldl f b) (v.getD k default) := by
  rw [take_c v k h, List.foldl_append]; rfl
def celV (c : Cel) : Value := .agg #[.int .i64 c.k, .int .i64 c.n, .string c.s]
set_option maxRecDepth 10000 in
set_option maxHeartbeats 1000000 in
theorem countOf_any (a : Option Addr) (cap : Nat) (v : List ch.Cnt) (w : World) (hl : v.length ≤ 1000000) (ha : ch.viewAt w a v) :
    Calls Tryz.prog 96 #[.slice a v.length cap] w fun e w' => e = .returned (.agg #[.int .i64 2, .int .i64 (cntS v), .string ⟨#[]⟩]) ∧ Below w.heap.size w w' := by
  have HA : Hid (ch.viewAt w a v) := ha
  have HS : Hid (∀ k, k < v.length → cntS (v.take (k + 1)) = wrap64 (cntS (v.take k) + (v.getD k default).n)) := fun k h => foldl_take _ _ v k h
  have H0 : Hid (cntS (v.take 0) = 0) := rfl
  have HE : Hid (cntS (v.take v.length) = cntS v) := by show cntS _ = _; rw [List.take_length]
  obtain ⟨CS, hCS⟩ : ∃ f : Nat → Int, ∀ k, cntS (v.take k) = f k := ⟨_, fun _ => rfl⟩
  obtain ⟨cs, hcs⟩ : ∃ z, cntS v = z := ⟨_, rfl⟩
  simp only [hCS, hcs] at HS H0 HE ⊢
  clear hCS hcs ha
  obtain ⟨n, hn⟩ : ∃ n, v.length = n := ⟨_, rfl⟩
  have HN : Hid (v.length = n) := hn
  rw [hn] at HS HE hl ⊢
  clear hn
  go_enter Tryz.func96, Tryz.ntmps96
  go_wp2
  generalize hW0 : (World.alloc w _) = W0
  have hb0 : Below w.heap.size w W0 := by rw [← hW0]; exact (Below.refl _ _).alloc (Nat.le_refl _) _
  have r0 : W0.cell? ⟨w.heap.size, 0, none⟩ = some (.int .i64 0) := by subst hW0; go_simp
  have r1 : W0.cell? ⟨w.heap.size, 1, none⟩ = some (.int .i64 0) := by subst hW0; go_simp
  have r2 : W0.cell? ⟨w.heap.size, 2, none⟩ = some (.string ⟨#[]⟩) := by subst hW0; go_simp
  have g0 : ∀ j, W0.frozen? ⟨w.heap.size, j, none⟩ = false := by intro j; subst hW0; go_simp
  have hlt0 : w.heap.size < W0.heap.size := World.block_lt_of_cell? _ _ r0
  clear hW0
  go_loopw [3, 8] (fun s i wr => ∃ k : Nat, k ≤ n ∧ i = .int .i64 k ∧ s = .int .i64 (CS k) ∧ Below W0.heap.size W0 wr) (fun _ i _ => n - (intOf i).toNat)
  case atStart => exact ⟨0, Nat.zero_le _, rfl, by rw [H0.out], Below.refl _ _⟩
  case round =>
    obtain ⟨k, hk, rfl, rfl, hnx⟩ := hrel
    have hbr := hb0.trans (hnx.mono hb0.size)
    have hsz := hnx.size
    have c0 := cell_later hnx r0
    have c1 := cell_later hnx r1
    have c2 := cell_later hnx r2
    have f0 : ∀ j, wr.frozen? ⟨w.heap.size, j, none⟩ = false := fun j => (hnx.frozen (p := ⟨w.heap.size, j, none⟩) hlt0).trans (g0 j)
    by_cases hlt : k < n
    · obtain ⟨b, o, ra, rc, e, x1, x2, x3⟩ := HA.out k (by rw [HN.out]; exact hlt)
      subst e
      have q1 := cell_later hbr x1
      have q3 := cell_later hbr x3
      have i1 : (0 : Int) ≤ (k : Int) := by omega
      have i2 : (k : Int) < (n : Int) := by omega
      have HS1 : Hid (CS (k + 1) = wrap64 (CS k + (v.getD k default).n)) := HS.out k hlt
      obtain ⟨m, hm⟩ : ∃ z, (v.getD k default).n = z := ⟨_, rfl⟩
      rw [hm] at HS1 q3
      clear hm x1 x2 x3
      go_wp2
      go_roundw
      case rel => exact ⟨k + 1, by omega, by go_num, by rw [HS1.out], hnx.alloc hsz _⟩
      case measure => simp [intOf]; omega
    · have hkn : k = n := by omega
      subst hkn
      have HE1 : Hid (CS k = cs) := HE.out
      go_wp2
      exact bodyPost_ret (v := .agg #[.int .i64 2, .int .i64 (CS k), .string ⟨#[]⟩]) (by simp [results, Tryz.results96, go_sem, c0, c1, c2]) rfl ⟨by rw [HE1.out], ((hbr.setCell (p := ⟨w.heap.size, 0, none⟩) (Nat.le_refl _) _).setCell (p := ⟨w.heap.size, 1, none⟩) (Nat.le_refl _) _).setCell (p := ⟨w.heap.size, 2, none⟩) (Nat.le_refl _) _⟩
/-- a variable of a value, in memory -/
structure Box3 (B : Nat) (w : World) (c : Cel) : Prop where
  k : w.cell? ⟨B, 0, none⟩ = some (.int .i64 c.k)
  n : w.cell? ⟨B, 1, none⟩ = some (.int .i64 c.n)
  s : w.cell? ⟨B, 2, none⟩ = some (.string c.s)
  f : ∀ j, w.frozen? ⟨B, j, none⟩ = false
theorem Box3_below {B : Nat} {w w' : World} {c : Cel} (h : Box3 B w c) (hb : Below w.heap.size w w') : Box3 B w' c :=
  ⟨cell_later hb h.k, cell_later hb h.n, cell_later hb h.s, fun j => (hb.frozen (p := ⟨B, j, none⟩) (show B < _ from World.block_lt_of_cell? _ _ h.k)).trans (h.f j)⟩
theorem Box3_set {B : Nat} {w : World} {c : Cel} (h : Box3 B w c) (k n : Int) (s : ByteArray) : Box3 B (((w.setCell ⟨B, 0, none⟩ (.int .i64 k)).setCell ⟨B, 1, none⟩ (.int .i64 n)).setCell ⟨B, 2, none⟩ (.string s)) ⟨k, n, s⟩ := by
  have h0 := h.k
  have h1 := h.n
  have h2 := h.s
  have ne : ∀ i j : Nat, i ≠ j → (⟨B, i, none⟩ : Addr) ≠ ⟨B, j, none⟩ := fun i j h e => h (by cases e; rfl)
  refine ⟨?_, ?_, ?_, fun j => ?_⟩
  · rw [World.cell?_setCell_other _ _ _ _ (ne 2 0 (by decide)), World.cell?_setCell_other _ _ _ _ (ne 1 0 (by decide)), World.cell?_setCell_same _ _ _ h0]
  · rw [World.cell?_setCell_other _ _ _ _ (ne 2 1 (by decide)), World.cell?_setCell_same _ _ _ (by rw [World.cell?_setCell_other _ _ _ _ (ne 0 1 (by decide))]; exact h1)]
  · rw [World.cell?_setCell_same _ _ _ (by rw [World.cell?_setCell_other _ _ _ _ (ne 1 2 (by decide)), World.cell?_setCell_other _ _ _ _ (ne 0 2 (by decide))]; exact h2)]
  · rw [World.frozen?_setCell, World.frozen?_setCell, World.frozen?_setCell]; exact h.f j
theorem Below_set3 {a B : Nat} {w w' : World} (h : Below a w w') (hB : a ≤ B) (x y z : Value) : Below a w (((w'.setCell ⟨B, 0, none⟩ x).setCell ⟨B, 1, none⟩ y).setCell ⟨B, 2, none⟩ z) :=
  ((h.setCell (p := ⟨B, 0, none⟩) hB _).setCell (p := ⟨B, 1, none⟩) hB _).setCell (p := ⟨B, 2, none⟩) hB _
set_option maxRecDepth 10000 in
set_option maxHeartbeats 2000000 in
theorem sumOf_any (a : Option Addr) (cap : Nat) (v : List ch.Cnt) (col : Nat) (w : World) (hl : v.length ≤ 1000000) (ha : ch.viewAt w a v) (hc : ∀ c ∈ v, col < c.r.length) (hcl : ∀ c ∈ v, c.r.length ≤ 9223372036854775807) :
    Calls Tryz.prog 97 #[.slice a v.length cap, .int .i64 (col : Int)] w fun e w' => e = .returned (celV (v.foldl (sumStep col) noCel)) ∧ Below w.heap.size w w' := by
  have HA : Hid (ch.viewAt w a v) := ha
  have HC : Hid (∀ k, k < v.length → col < (v.getD k default).r.length ∧ (v.getD k default).r.length ≤ 9223372036854775807) := fun k h => ⟨hc _ (getD_mem h), hcl _ (getD_mem h)⟩
  have HS : Hid (∀ k, k < v.length → (v.take (k + 1)).foldl (sumStep col) noCel = sumStep col ((v.take k).foldl (sumStep col) noCel) (v.getD k default)) := fun k h => foldl_take _ _ v k h
  have H0 : Hid ((v.take 0).foldl (sumStep col) noCel = noCel) := rfl
  have HE : Hid ((v.take v.length).foldl (sumStep col) noCel = v.foldl (sumStep col) noCel) := by show (v.take v.length).foldl _ _ = _; rw [List.take_length]
  obtain ⟨CS, hCS⟩ : ∃ f : Nat → Cel, ∀ k, (v.take k).foldl (sumStep col) noCel = f k := ⟨_, fun _ => rfl⟩
  obtain ⟨cs, hcs⟩ : ∃ z, v.foldl (sumStep col) noCel = z := ⟨_, rfl⟩
  simp only [hCS, hcs] at HS H0 HE ⊢
  clear hCS hcs ha hc hcl
  obtain ⟨n, hn⟩ : ∃ n, v.length = n := ⟨_, rfl⟩
  have HN : Hid (v.length = n) := hn
  rw [hn] at HS HE hl HC ⊢
  clear hn
  unfold celV
  go_enter Tryz.func97, Tryz.ntmps97
  go_wp2
  generalize hW0 : (World.alloc (World.alloc w _) _) = W0
  have hb0 : Below w.heap.size w W0 := by rw [← hW0]; exact ((Below.refl _ _).alloc (Nat.le_refl _) _).alloc (by simp) _
  have r0 : W0.cell? ⟨w.heap.size, 0, none⟩ = some (.int .i64 0) := by subst hW0; go_simp
  have r1 : W0.cell? ⟨w.heap.size, 1, none⟩ = some (.int .i64 0) := by subst hW0; go_simp
  have r2 : W0.cell? ⟨w.heap.size, 2, none⟩ = some (.string ⟨#[]⟩) := by subst hW0; go_simp
  have g0 : ∀ j, W0.frozen? ⟨w.heap.size, j, none⟩ = false := by intro j; subst hW0; go_simp
  have y0 : W0.cell? ⟨w.heap.size + 1, 0, none⟩ = some (.int .i64 0) := by subst hW0; go_simp
  have y1 : W0.cell? ⟨w.heap.size + 1, 1, none⟩ = some (.int .i64 0) := by subst hW0; go_simp
  have y2 : W0.cell? ⟨w.heap.size + 1, 2, none⟩ = some (.string ⟨#[]⟩) := by subst hW0; go_simp
  have g1 : ∀ j, W0.frozen? ⟨w.heap.size + 1, j, none⟩ = false := by intro j; subst hW0; go_simp
  have hlt0 : w.heap.size + 1 < W0.heap.size := World.block_lt_of_cell? _ _ y0
  have HB0 : Hid (Box3 (w.heap.size + 1) W0 noCel) := ⟨y0, y1, y2, g1⟩
  clear hW0 y0 y1 y2 g1
  go_loopw [11] (fun i wr => ∃ k : Nat, k ≤ n ∧ i = .int .i64 k ∧ Box3 (w.heap.size + 1) wr (CS k) ∧ Below (w.heap.size + 1) W0 wr) (fun i _ => n - (intOf i).toNat)
  case atStart => exact ⟨0, Nat.zero_le _, rfl, by rw [H0.out]; exact HB0.out, Below.refl _ _⟩
  case round =>
    obtain ⟨k, hk, rfl, hbox, hnx⟩ := hrel
    have HBX : Hid (Box3 (w.heap.size + 1) wr (CS k)) := hbox
    have hbr : Below w.heap.size w wr := hb0.trans (hnx.mono (by omega))
    have hsz := hnx.size
    have z0 := hbox.k
    have z1 := hbox.n
    have z2 := hbox.s
    have zf := hbox.f
    have c0 : wr.cell? ⟨w.heap.size, 0, none⟩ = _ := (hnx.cell (p := ⟨w.heap.size, 0, none⟩) (by show w.heap.size < _; omega)).trans r0
    have c1 : wr.cell? ⟨w.heap.size, 1, none⟩ = _ := (hnx.cell (p := ⟨w.heap.size, 1, none⟩) (by show w.heap.size < _; omega)).trans r1
    have c2 : wr.cell? ⟨w.heap.size, 2, none⟩ = _ := (hnx.cell (p := ⟨w.heap.size, 2, none⟩) (by show w.heap.size < _; omega)).trans r2
    have f0 : ∀ j, wr.frozen? ⟨w.heap.size, j, none⟩ = false := fun j => (hnx.frozen (p := ⟨w.heap.size, j, none⟩) (by show w.heap.size < _; omega)).trans (g0 j)
    clear hbox
    by_cases hlt : k < n
    · obtain ⟨b, o, ra, rc, e, x1, x2, x3⟩ := HA.out k (by rw [HN.out]; exact hlt)
      subst e
      obtain ⟨hcol, hrl⟩ := HC.out k hlt
      obtain ⟨b3, o3, e3, m1, m2, m3⟩ := x2 col hcol
      subst e3
      have q1 := cell_later hbr x1
      have q3 := cell_later hbr x3
      have p1 := cell_later hbr m1
      have p2 := cell_later hbr m2
      have p3 : wr.cell? ⟨b3, o3 + col * 3 + 2, none⟩ = _ := cell_later hbr m3
      have hb3 : b3 < wr.heap.size := World.block_lt_of_cell? _ _ p1
      have i1 : (0 : Int) ≤ (k : Int) := by omega
      have i2 : (k : Int) < (n : Int) := by omega
      have j1 : (0 : Int) ≤ (col : Int) := by omega
      have j2 : (col : Int) < ((v.getD k default).r.length : Int) := by omega
      have HS1 : Hid (CS (k + 1) = sumStep col (CS k) (v.getD k default)) := HS.out k hlt
      unfold sumStep at HS1
      have hSB : w.heap.size + 1 < wr.heap.size := World.block_lt_of_cell? _ _ z0
      have hSA : w.heap.size < wr.heap.size := by omega
      obtain ⟨m, hm⟩ : ∃ z, (v.getD k default).n = z := ⟨_, rfl⟩
      obtain ⟨⟨xk, xn, xs⟩, hx⟩ : ∃ z, (v.getD k default).r.getD col default = z := ⟨_, rfl⟩
      obtain ⟨rl, hrl'⟩ : ∃ z, (v.getD k default).r.length = z := ⟨_, rfl⟩
      rw [hm, hx] at HS1
      rw [hx] at p1 p2 p3
      rw [hm] at q3
      rw [hrl'] at q1 j2
      obtain ⟨⟨sk, sn, ss⟩, hs⟩ : ∃ z, CS k = z := ⟨_, rfl⟩
      rw [hs] at z0 z1 z2 HBX HS1
      dsimp only at p1 p2 p3 z0 z1 z2 HS1
      clear hm hx hrl' hs x1 x2 x3 m1 m2 m3 hcol hrl
      by_cases h2 : xk = 2
      · subst h2
        have HS2 : Hid (CS (k + 1) = ⟨2, wrap64 (sn + wrap64 (xn * m)), ⟨#[]⟩⟩) := by have := HS1.out; rw [if_pos rfl] at this; exact this
        clear HS1
        go_wp2
        go_roundw
        case rel => exact ⟨k + 1, by omega, by go_num, by rw [HS2.out]; exact Box3_below (Box3_set HBX.out _ _ _) (((Below.refl _ _).alloc (Nat.le_refl _) _).alloc (by simp) _), ((Below_set3 hnx (Nat.le_refl _) _ _ _).alloc (by simp [World.setCell]; omega) _).alloc (by simp [World.setCell]; omega) _⟩
        case measure => simp [intOf]; omega
      · have h2' : (xk == 2) = false := by rw [beq_eq_false_iff_ne]; exact h2
        have HS2 : Hid (CS (k + 1) = ⟨sk, sn, ss⟩) := by have := HS1.out; rw [if_neg h2] at this; exact this
        clear HS1 h2
        go_wp2
        go_roundw
        case rel => exact ⟨k + 1, by omega, by go_num, by rw [HS2.out]; exact Box3_below HBX.out (((Below.refl _ _).alloc (Nat.le_refl _) _).alloc (by simp) _), (hnx.alloc (by omega) _).alloc (by simp; omega) _⟩
        case measure => simp [intOf]; omega
    · have hkn : k = n := by omega
      subst hkn
      have HE1 : Hid (CS k = cs) := HE.out
      go_wp2
      exact bodyPost_ret (v := .agg #[.int .i64 (CS k).k, .int .i64 (CS k).n, .string (CS k).s]) (by simp [results, Tryz.results97, go_sem, c0, c1, c2]) rfl ⟨by rw [HE1.out], Below_set3 hbr (Nat.le_refl _) _ _ _⟩
set_option maxRecDepth 10000 in
set_option maxHeartbeats 2000000 in
theorem outermost_any (a : Option Addr) (cap : Nat) (v : List ch.Cnt) (col : Nat) (way : Int) (w : World) (hl : v.length ≤ 1000000) (ha : ch.viewAt w a v) (hc : ∀ c ∈ v, col < c.r.length) (hcl : ∀ c ∈ v, c.r.length ≤ 9223372036854775807) :
    Calls Tryz.prog 98 #[.slice a v.length cap, .int .i64 (col : Int), .int .i64 way] w fun e w' => e = .returned (celV (v.foldl (outStep col way) noCel)) ∧ Below w.heap.size w w' := by
  have HA : Hid (ch.viewAt w a v) := ha
  have HC : Hid (∀ k, k < v.length → col < (v.getD k default).r.length ∧ (v.getD k default).r.length ≤ 9223372036854775807) := fun k h => ⟨hc _ (getD_mem h), hcl _ (getD_mem h)⟩
  have HS : Hid (∀ k, k < v.length → (v.take (k + 1)).foldl (outStep col way) noCel = outStep col way ((v.take k).foldl (outStep col way) noCel) (v.getD k default)) := fun k h => foldl_take _ _ v k h
  have H0 : Hid ((v.take 0).foldl (outStep col way) noCel = noCel) := rfl
  have HE : Hid ((v.take v.length).foldl (outStep col way) noCel = v.foldl (outStep col way) noCel) := by show (v.take v.length).foldl _ _ = _; rw [List.take_length]
  obtain ⟨CS, hCS⟩ : ∃ f : Nat → Cel, ∀ k, (v.take k).foldl (outStep col way) noCel = f k := ⟨_, fun _ => rfl⟩
  obtain ⟨cs, hcs⟩ : ∃ z, v.foldl (outStep col way) noCel = z := ⟨_, rfl⟩
  simp only [hCS, hcs] at HS H0 HE ⊢
  clear hCS hcs ha hc hcl
  obtain ⟨n, hn⟩ : ∃ n, v.length = n := ⟨_, rfl⟩
  have HN : Hid (v.length = n) := hn
  rw [hn] at HS HE hl HC ⊢
  clear hn
  unfold celV
  go_enter Tryz.func98, Tryz.ntmps98
  go_wp2
  generalize hW0 : (World.alloc (World.alloc w _) _) = W0
  have hb0 : Below w.heap.size w W0 := by rw [← hW0]; exact ((Below.refl _ _).alloc (Nat.le_refl _) _).alloc (by simp) _
  have r0 : W0.cell? ⟨w.heap.size, 0, none⟩ = some (.int .i64 0) := by subst hW0; go_simp
  have r1 : W0.cell? ⟨w.heap.size, 1, none⟩ = some (.int .i64 0) := by subst hW0; go_simp
  have r2 : W0.cell? ⟨w.heap.size, 2, none⟩ = some (.string ⟨#[]⟩) := by subst hW0; go_simp
  have g0 : ∀ j, W0.frozen? ⟨w.heap.size, j, none⟩ = false := by intro j; subst hW0; go_simp
  have y0 : W0.cell? ⟨w.heap.size + 1, 0, none⟩ = some (.int .i64 0) := by subst hW0; go_simp
  have y1 : W0.cell? ⟨w.heap.size + 1, 1, none⟩ = some (.int .i64 0) := by subst hW0; go_simp
  have y2 : W0.cell? ⟨w.heap.size + 1, 2, none⟩ = some (.string ⟨#[]⟩) := by subst hW0; go_simp
  have g1 : ∀ j, W0.frozen? ⟨w.heap.size + 1, j, none⟩ = false := by intro j; subst hW0; go_simp
  have hlt0 : w.heap.size + 1 < W0.heap.size := World.block_lt_of_cell? _ _ y0
  have HB0 : Hid (Box3 (w.heap.size + 1) W0 noCel) := ⟨y0, y1, y2, g1⟩
  clear hW0 y0 y1 y2 g1
  go_loopw [13] (fun i wr => ∃ k : Nat, k ≤ n ∧ i = .int .i64 k ∧ Box3 (w.heap.size + 1) wr (CS k) ∧ Below (w.heap.size + 1) W0 wr) (fun i _ => n - (intOf i).toNat)
  case atStart => exact ⟨0, Nat.zero_le _, rfl, by rw [H0.out]; exact HB0.out, Below.refl _ _⟩
  case round =>
    obtain ⟨k, hk, rfl, hbox, hnx⟩ := hrel
    have HBX : Hid (Box3 (w.heap.size + 1) wr (CS k)) := hbox
    have hbr : Below w.heap.size w wr := hb0.trans (hnx.mono (by omega))
    have hsz := hnx.size
    have z0 := hbox.k
    have z1 := hbox.n
    have z2 := hbox.s
    have zf := hbox.f
    have c0 : wr.cell? ⟨w.heap.size, 0, none⟩ = _ := (hnx.cell (p := ⟨w.heap.size, 0, none⟩) (by show w.heap.size < _; omega)).trans r0
    have c1 : wr.cell? ⟨w.heap.size, 1, none⟩ = _ := (hnx.cell (p := ⟨w.heap.size, 1, none⟩) (by show w.heap.size < _; omega)).trans r1
    have c2 : wr.cell? ⟨w.heap.size, 2, none⟩ = _ := (hnx.cell (p := ⟨w.heap.size, 2, none⟩) (by show w.heap.size < _; omega)).trans r2
    have f0 : ∀ j, wr.frozen? ⟨w.heap.size, j, none⟩ = false := fun j => (hnx.frozen (p := ⟨w.heap.size, j, none⟩) (by show w.heap.size < _; omega)).trans (g0 j)
    clear hbox
    by_cases hlt : k < n
    · obtain ⟨b, o, ra, rc, e, x1, x2, x3⟩ := HA.out k (by rw [HN.out]; exact hlt)
      subst e
      obtain ⟨hcol, hrl⟩ := HC.out k hlt
      obtain ⟨b3, o3, e3, m1, m2, m3⟩ := x2 col hcol
      subst e3
      have q1 := cell_later hbr x1
      have q3 := cell_later hbr x3
      have p1 := cell_later hbr m1
      have p2 := cell_later hbr m2
      have p3 : wr.cell? ⟨b3, o3 + col * 3 + 2, none⟩ = _ := cell_later hbr m3
      have hb3 : b3 < wr.heap.size := World.block_lt_of_cell? _ _ p1
      have i1 : (0 : Int) ≤ (k : Int) := by omega
      have i2 : (k : Int) < (n : Int) := by omega
      have j1 : (0 : Int) ≤ (col : Int) := by omega
      have j2 : (col : Int) < ((v.getD k default).r.length : Int) := by omega
      have HS1 : Hid (CS (k + 1) = outStep col way (CS k) (v.getD k default)) := HS.out k hlt
      unfold outStep at HS1
      have hSB : w.heap.size + 1 < wr.heap.size := World.block_lt_of_cell? _ _ z0
      have hSA : w.heap.size < wr.heap.size := by omega
      obtain ⟨m, hm⟩ : ∃ z, (v.getD k default).n = z := ⟨_, rfl⟩
      obtain ⟨⟨xk, xn, xs⟩, hx⟩ : ∃ z, (v.getD k default).r.getD col default = z := ⟨_, rfl⟩
      obtain ⟨rl, hrl'⟩ : ∃ z, (v.getD k default).r.length = z := ⟨_, rfl⟩
      rw [hx] at HS1
      rw [hx] at p1 p2 p3
      rw [hm] at q3
      rw [hrl'] at q1 j2
      obtain ⟨⟨sk, sn, ss⟩, hs⟩ : ∃ z, CS k = z := ⟨_, rfl⟩
      rw [hs] at z0 z1 z2 HBX HS1
      dsimp only at p1 p2 p3 z0 z1 z2 HS1
      clear hm hx hrl' hs x1 x2 x3 m1 m2 m3 hcol hrl
      have KC : Hid (∀ w1, Calls Tryz.prog 133 #[.agg #[.int .i64 xk, .int .i64 xn, .string xs], .agg #[.int .i64 sk, .int .i64 sn, .string ss]] w1 fun e w' => e = .returned (.int .i64 (cmpC ⟨xk, xn, xs⟩ ⟨sk, sn, ss⟩)) ∧ Below w1.heap.size w1 w') := fun w1 => compare_any xk xn xs sk sn ss w1
      obtain ⟨cv, hcv⟩ : ∃ z, cmpC ⟨xk, xn, xs⟩ ⟨sk, sn, ss⟩ = z := ⟨_, rfl⟩
      rw [hcv] at HS1 KC
      clear hcv
      by_cases h2 : xk = 0
      · subst h2
        have HS2 : Hid (CS (k + 1) = ⟨sk, sn, ss⟩) := by have := HS1.out; rw [if_pos rfl] at this; exact this
        clear HS1 KC
        go_wp2
        go_roundw
        case rel => exact ⟨k + 1, by omega, by go_num, by rw [HS2.out]; exact Box3_below HBX.out (((Below.refl _ _).alloc (Nat.le_refl _) _).alloc (by simp) _), (hnx.alloc (by omega) _).alloc (by simp; omega) _⟩
        case measure => simp [intOf]; omega
      · have h2' : (xk == 0) = false := by rw [beq_eq_false_iff_ne]; exact h2
        have HS3 : Hid (CS (k + 1) = if sk = 0 ∨ cv = way then ⟨xk, xn, xs⟩ else ⟨sk, sn, ss⟩) := by have := HS1.out; rw [if_neg h2] at this; exact this
        clear HS1 h2
        by_cases h3 : sk = 0
        · subst h3
          have HS2 : Hid (CS (k + 1) = ⟨xk, xn, xs⟩) := by have := HS3.out; rw [if_pos (.inl rfl)] at this; exact this
          clear HS3 KC
          go_wp2
          go_roundw
          case rel => exact ⟨k + 1, by omega, by go_num, by rw [HS2.out]; exact Box3_below (Box3_set HBX.out _ _ _) (((Below.refl _ _).alloc (Nat.le_refl _) _).alloc (by simp) _), ((Below_set3 hnx (Nat.le_refl _) _ _ _).alloc (by simp [World.setCell]; omega) _).alloc (by simp [World.setCell]; omega) _⟩
          case measure => simp [intOf]; omega
        · have h3' : (sk == 0) = false := by rw [beq_eq_false_iff_ne]; exact h3
          by_cases h4 : cv = way
          · have HS2 : Hid (CS (k + 1) = ⟨xk, xn, xs⟩) := by have := HS3.out; rw [if_pos (.inr h4)] at this; exact this
            have h4' : (cv == way) = true := by rw [beq_iff_eq]; exact h4
            clear HS3 h3 h4
            go_wp2_with (go_at_call 133; refine (KC.out _).mono ?_; rintro e w1 ⟨rfl, hb1⟩; have hbx := (((Below.refl _ _).alloc (Nat.le_refl _) _).alloc (by simp) _).trans (hb1.mono (by simp; omega)); have hx0 : w1.cell? ⟨wr.heap.size + 1, 0, none⟩ = some (.int .i64 xk) := cell_later hb1 (by go_simp); have hx1 : w1.cell? ⟨wr.heap.size + 1, 1, none⟩ = some (.int .i64 xn) := cell_later hb1 (by go_simp); have hx2 : w1.cell? ⟨wr.heap.size + 1, 2, none⟩ = some (.string xs) := cell_later hb1 (by go_simp); have hy0 := cell_later hbx z0; have hy1 := cell_later hbx z1; have hy2 := cell_later hbx z2; have hyf : ∀ j, w1.frozen? ⟨w.heap.size + 1, j, none⟩ = false := fun j => (hbx.frozen (p := ⟨w.heap.size + 1, j, none⟩) hSB).trans (zf j))
            go_roundw
            case rel => exact ⟨k + 1, by omega, by go_num, by rw [HS2.out]; exact Box3_set (Box3_below HBX.out hbx) _ _ _, Below_set3 (hnx.trans (hbx.mono (by omega))) (Nat.le_refl _) _ _ _⟩
            case measure => simp [intOf]; omega
          · have HS2 : Hid (CS (k + 1) = ⟨sk, sn, ss⟩) := by have := HS3.out; rw [if_neg (fun h => h.elim h3 h4)] at this; exact this
            have h4' : (cv == way) = false := by rw [beq_eq_false_iff_ne]; exact h4
            clear HS3 h3 h4
            go_wp2_with (go_at_call 133; refine (KC.out _).mono ?_; rintro e w1 ⟨rfl, hb1⟩; have hbx := (((Below.refl _ _).alloc (Nat.le_refl _) _).alloc (by simp) _).trans (hb1.mono (by simp; omega)))
            go_roundw
            case rel => exact ⟨k + 1, by omega, by go_num, by rw [HS2.out]; exact Box3_below HBX.out hbx, hnx.trans (hbx.mono (by omega))⟩
            case measure => simp [intOf]; omega
    · have hkn : k = n := by omega
      subst hkn
      have HE1 : Hid (CS k = cs) := HE.out
      go_wp2
      exact bodyPost_ret (v := .agg #[.int .i64 (CS k).k, .int .i64 (CS k).n, .string (CS k).s]) (by simp [results, Tryz.results98, go_sem, c0, c1, c2]) rfl ⟨by rw [HE1.out], Below_set3 hbr (Nat.le_refl _) _ _ _⟩
set_option maxRecDepth 10000 in
set_option maxHeartbeats 2000000 in
theorem figure_any (a : Option Addr) (cap : Nat) (v : List ch.Cnt) (ag : Int × Int) (w : World) (hl : v.length ≤ 1000000) (ha : ch.viewAt w a v) (hag : 1 ≤ ag.1 ∧ ag.1 ≤ 4) (hc : ag.1 ≠ 1 → 0 ≤ ag.2 ∧ ∀ c ∈ v, ag.2.toNat < c.r.length) (hcl : ∀ c ∈ v, c.r.length ≤ 9223372036854775807) :
    Calls Tryz.prog 50 #[.agg #[.int .i64 ag.1, .int .i64 ag.2], .slice a v.length cap] w fun e w' => e = .returned (celV (figC ag v)) ∧ Below w.heap.size w w' := by
  have K1 : Hid (∀ w1, Below w.heap.size w w1 → Calls Tryz.prog 96 #[.slice a v.length cap] w1 fun e w' => e = .returned (.agg #[.int .i64 2, .int .i64 (cntS v), .string ⟨#[]⟩]) ∧ Below w1.heap.size w1 w') := fun w1 hb => countOf_any a cap v w1 hl (ch.viewAt_below ha hb)
  have K2 : Hid (ag.1 ≠ 1 → ∀ w1, Below w.heap.size w w1 → Calls Tryz.prog 97 #[.slice a v.length cap, .int .i64 ag.2] w1 fun e w' => e = .returned (celV (v.foldl (sumStep ag.2.toNat) noCel)) ∧ Below w1.heap.size w1 w') := fun h w1 hb => by
    have h2 := hc h
    have := sumOf_any a cap v ag.2.toNat w1 hl (ch.viewAt_below ha hb) h2.2 hcl
    rwa [Int.toNat_of_nonneg h2.1] at this
  have K3 : Hid (ag.1 ≠ 1 → ∀ way w1, Below w.heap.size w w1 → Calls Tryz.prog 98 #[.slice a v.length cap, .int .i64 ag.2, .int .i64 way] w1 fun e w' => e = .returned (celV (v.foldl (outStep ag.2.toNat way) noCel)) ∧ Below w1.heap.size w1 w') := fun h way w1 hb => by
    have h2 := hc h
    have := outermost_any a cap v ag.2.toNat way w1 hl (ch.viewAt_below ha hb) h2.2 hcl
    rwa [Int.toNat_of_nonneg h2.1] at this
  unfold figC
  obtain ⟨fn, col⟩ := ag
  dsimp only at K1 K2 K3 hag ⊢
  obtain ⟨f1, e1⟩ : ∃ z, cntS v = z := ⟨_, rfl⟩
  obtain ⟨⟨sk, sn, ss⟩, e2⟩ : ∃ z, v.foldl (sumStep col.toNat) noCel = z := ⟨_, rfl⟩
  obtain ⟨⟨ak, an, az⟩, e3⟩ : ∃ z, v.foldl (outStep col.toNat (-1)) noCel = z := ⟨_, rfl⟩
  obtain ⟨⟨bk, bn, bs⟩, e4⟩ : ∃ z, v.foldl (outStep col.toNat 1) noCel = z := ⟨_, rfl⟩
  have K4 : Hid (fn ≠ 1 → ∀ w1, Below w.heap.size w w1 → Calls Tryz.prog 98 #[.slice a v.length cap, .int .i64 col, .int .i64 (-1)] w1 fun e w' => e = .returned (celV ⟨ak, an, az⟩) ∧ Below w1.heap.size w1 w') := fun h w1 hb => by
    have := K3.out h (-1) w1 hb
    rwa [e3] at this
  have K5 : Hid (fn ≠ 1 → ∀ w1, Below w.heap.size w w1 → Calls Tryz.prog 98 #[.slice a v.length cap, .int .i64 col, .int .i64 1] w1 fun e w' => e = .returned (celV ⟨bk, bn, bs⟩) ∧ Below w1.heap.size w1 w') := fun h w1 hb => by
    have := K3.out h 1 w1 hb
    rwa [e4] at this
  rw [e1] at K1 ⊢
  rw [e2] at K2 ⊢
  rw [e3, e4]
  clear K3 e1 e2 e3 e4 ha hc hcl hl
  obtain ⟨n, hn⟩ : ∃ n, v.length = n := ⟨_, rfl⟩
  rw [hn] at K1 K2 K4 K5 ⊢
  clear hn
  unfold celV at K2 K4 K5 ⊢
  dsimp only at K2 K4 K5
  have h4 : fn = 1 ∨ fn = 2 ∨ fn = 3 ∨ fn = 4 := by omega
  have hba : ∀ o1 o2, Below w.heap.size w ((w.alloc o1).alloc o2) := fun o1 o2 => ((Below.refl _ _).alloc (Nat.le_refl _) _).alloc (by simp) _
  rcases h4 with rfl | rfl | rfl | rfl
  · rw [if_pos rfl]
    dsimp only
    clear K2 K4 K5 hag
    go_enter Tryz.func50, Tryz.ntmps50
    go_wp2_with fail
    refine (K1.out _ (hba _ _)).mono ?_
    rintro e w1 ⟨rfl, hb1⟩
    have hbn : Below w.heap.size w w1 := (hba _ _).trans (hb1.mono (by simp; omega))
    have z0 : w1.cell? ⟨w.heap.size + 1, 0, none⟩ = some (.int .i64 0) := cell_later hb1 (by go_simp)
    have z1 : w1.cell? ⟨w.heap.size + 1, 1, none⟩ = some (.int .i64 0) := cell_later hb1 (by go_simp)
    have z2 : w1.cell? ⟨w.heap.size + 1, 2, none⟩ = some (.string ⟨#[]⟩) := cell_later hb1 (by go_simp)
    have zf : ∀ j, w1.frozen? ⟨w.heap.size + 1, j, none⟩ = false := fun j => (hb1.frozen (p := ⟨w.heap.size + 1, j, none⟩) (by simp)).trans (by go_simp)
    go_wp2
    exact bodyPost_ret (v := .agg #[.int .i64 2, .int .i64 f1, .string ⟨#[]⟩]) (by simp [results, Tryz.results50, go_sem, z0, z1, z2]) rfl ⟨rfl, Below_set3 hbn (by omega) _ _ _⟩
  · rw [if_neg (by decide), if_pos rfl]
    dsimp only
    clear K1 K4 K5 hag
    go_enter Tryz.func50, Tryz.ntmps50
    go_wp2_with fail
    refine (K2.out (by decide) _ (hba _ _)).mono ?_
    rintro e w1 ⟨rfl, hb1⟩
    have hbn : Below w.heap.size w w1 := (hba _ _).trans (hb1.mono (by simp; omega))
    have z0 : w1.cell? ⟨w.heap.size + 1, 0, none⟩ = some (.int .i64 0) := cell_later hb1 (by go_simp)
    have z1 : w1.cell? ⟨w.heap.size + 1, 1, none⟩ = some (.int .i64 0) := cell_later hb1 (by go_simp)
    have z2 : w1.cell? ⟨w.heap.size + 1, 2, none⟩ = some (.string ⟨#[]⟩) := cell_later hb1 (by go_simp)
    have zf : ∀ j, w1.frozen? ⟨w.heap.size + 1, j, none⟩ = false := fun j => (hb1.frozen (p := ⟨w.heap.size + 1, j, none⟩) (by simp)).trans (by go_simp)
    go_wp2
    exact bodyPost_ret (v := .agg #[.int .i64 sk, .int .i64 sn, .string ss]) (by simp [results, Tryz.results50, go_sem, z0, z1, z2]) rfl ⟨rfl, Below_set3 hbn (by omega) _ _ _⟩
  · rw [if_neg (by decide), if_neg (by decide), if_pos rfl]
    dsimp only
    clear K1 K2 K5 hag
    go_enter Tryz.func50, Tryz.ntmps50
    go_wp2_with fail
    refine (K4.out (by decide) _ (hba _ _)).mono ?_
    rintro e w1 ⟨rfl, hb1⟩
    have hbn : Below w.heap.size w w1 := (hba _ _).trans (hb1.mono (by simp; omega))
    have z0 : w1.cell? ⟨w.heap.size + 1, 0, none⟩ = some (.int .i64 0) := cell_later hb1 (by go_simp)
    have z1 : w1.cell? ⟨w.heap.size + 1, 1, none⟩ = some (.int .i64 0) := cell_later hb1 (by go_simp)
    have z2 : w1.cell? ⟨w.heap.size + 1, 2, none⟩ = some (.string ⟨#[]⟩) := cell_later hb1 (by go_simp)
    have zf : ∀ j, w1.frozen? ⟨w.heap.size + 1, j, none⟩ = false := fun j => (hb1.frozen (p := ⟨w.heap.size + 1, j, none⟩) (by simp)).trans (by go_simp)
    go_wp2
    exact bodyPost_ret (v := .agg #[.int .i64 ak, .int .i64 an, .string az]) (by simp [results, Tryz.results50, go_sem, z0, z1, z2]) rfl ⟨rfl, Below_set3 hbn (by omega) _ _ _⟩
  · rw [if_neg (by decide), if_neg (by decide), if_neg (by decide)]
    dsimp only
    clear K1 K2 K4 hag
    go_enter Tryz.func50, Tryz.ntmps50
    go_wp2_with fail
    refine (K5.out (by decide) _ (hba _ _)).mono ?_
    rintro e w1 ⟨rfl, hb1⟩
    have hbn : Below w.heap.size w w1 := (hba _ _).trans (hb1.mono (by simp; omega))
    have z0 : w1.cell? ⟨w.heap.size + 1, 0, none⟩ = some (.int .i64 0) := cell_later hb1 (by go_simp)
    have z1 : w1.cell? ⟨w.heap.size + 1, 1, none⟩ = some (.int .i64 0) := cell_later hb1 (by go_simp)
    have z2 : w1.cell? ⟨w.heap.size + 1, 2, none⟩ = some (.string ⟨#[]⟩) := cell_later hb1 (by go_simp)
    have zf : ∀ j, w1.frozen? ⟨w.heap.size + 1, j, none⟩ = false := fun j => (hb1.frozen (p := ⟨w.heap.size + 1, j, none⟩) (by simp)).trans (by go_simp)
    go_wp2
    exact bodyPost_ret (v := .agg #[.int .i64 bk, .int .i64 bn, .string bs]) (by simp [results, Tryz.results50, go_sem, z0, z1, z2]) rfl ⟨rfl, Below_set3 hbn (by omega) _ _ _⟩
end Go.Proofs.YtbiiignmikbbnaaGreat.bt

/- A map of lists of rows, by where the lists lie; and what it holds while a view is grouped. -/
namespace Go.Proofs.YtbiiignmikbbnaaGreat.bt
open Go.ChangeShapes Go.WideShapes Go.ChangeAt Go.RowKit Go.Maps Go.WideMaps
open vl pl
set_option linter.unusedVariables false
set_option linter.unusedSimpArgs false
/-- two numbers as one -/
def pr (a b : Nat) : Nat := (a + b) * (a + b) + a
theorem pr_inj {a b c d : Nat} (h : pr a b = pr c d) : a = c ∧ b = d := by
  unfold pr at h
  have key : ∀ s t x y : Nat, x ≤ s → s * s + x = t * t + y → ¬ s < t := by
    intro s t x y hx h1 h2
    have h3 : (s + 1) * (s + 1) ≤ t * t := Nat.mul_self_le_mul_self h2
    have h4 : (s + 1) * (s + 1) = s * s + s + s + 1 := by
      rw [Nat.add_mul, Nat.mul_add, Nat.one_mul, Nat.mul_one]; omega
    omega
  have h1 := key (a + b) (c + d) a c (by omega) h
  have h2 := key (c + d) (a + b) c a (by omega) h.symm
  have h3 : a + b = c + d := by omega
  rw [h3] at h
  omega
/-- where a slice of one's own lies, as a number -/
def hElem : Value → Option (DataW Unit × List MemPlace)
  | .slice none 0 0 => some (.lit (.int .i64 0), [])
  | .slice (some ⟨g, 0, none⟩) n cap => some (.lit (.int .i64 ((pr (pr g n) cap : Nat) + 1)), [])
  | _ => none
def isAt (v : Value) (n : Int) : Prop := hElem v = some (.lit (.int .i64 n), [])
theorem isAt_nil : isAt (.slice none 0 0) 0 := rfl
theorem isAt_some (g n cap : Nat) : isAt (.slice (some ⟨g, 0, none⟩) n cap) ((pr (pr g n) cap : Nat) + 1) := rfl
theorem isAt_cases {v : Value} {d : DataW Unit} {ps : List MemPlace} (h : hElem v = some (d, ps)) : (v = .slice none 0 0 ∧ d = .lit (.int .i64 0)) ∨ ∃ g n cap, v = .slice (some ⟨g, 0, none⟩) n cap ∧ d = .lit (.int .i64 ((pr (pr g n) cap : Nat) + 1)) := by
  unfold hElem at h
  split at h
  · simp only [Option.some.injEq, Prod.mk.injEq] at h
    exact .inl ⟨rfl, h.1.symm⟩
  · rename_i g n cap
    simp only [Option.some.injEq, Prod.mk.injEq] at h
    exact .inr ⟨g, n, cap, rfl, h.1.symm⟩
  · cases h
theorem isAt_zero {v : Value} (h : isAt v 0) : v = .slice none 0 0 := by
  rcases isAt_cases h with ⟨h1, _⟩ | ⟨g, n, cap, _, h2⟩
  · exact h1
  · injection h2 with h2; injection h2 with _ h2; omega
theorem isAt_inj {v u : Value} {n : Int} (h : isAt v n) (k : isAt u n) : v = u := by
  rcases isAt_cases h with ⟨h1, h2⟩ | ⟨g, m, cap, h1, h2⟩ <;> rcases isAt_cases k with ⟨k1, k2⟩ | ⟨g', m', cap', k1, k2⟩
  · rw [h1, k1]
  · injection h2 with h2; injection h2 with _ h2
    injection k2 with k2; injection k2 with _ k2
    omega
  · injection h2 with h2; injection h2 with _ h2
    injection k2 with k2; injection k2 with _ k2
    omega
  · injection h2 with h2; injection h2 with _ h2
    injection k2 with k2; injection k2 with _ k2
    have e : pr (pr g m) cap = pr (pr g' m') cap' := by omega
    obtain ⟨e1, e2⟩ := pr_inj e
    obtain ⟨e3, e4⟩ := pr_inj e1
    rw [h1, k1, e2, e3, e4]
/-- v is a list of these rows, of one's own; the rows' cells lie in W0 -/
def GR (W0 : World) (base : Nat) (wr : World) (v : Value) (l : List ch.Cnt) : Prop :=
  ∃ L : ch.PL, wr.ownsRow base 45 2 v L.length (ch.flatP L) ∧ ch.outOf L = l ∧ ∀ p ∈ L, ∃ ad cap, p.1 = .slice ad p.2.r.length cap ∧ vl.rowAt W0 ad p.2.r
theorem GR_nil (W0 : World) (base : Nat) (wr : World) : GR W0 base wr (.slice none 0 0) [] := ⟨[], World.ownsRow_nil _ _ _ _, rfl, fun p hp => by cases hp⟩
theorem GR_keep {W0 wr w' : World} {base : Nat} {v : Value} {l : List ch.Cnt} (h : GR W0 base wr v l) (hb : ∀ g, v.ownBlock = some g → w'.heap[g]? = wr.heap[g]?) : GR W0 base w' v l := by
  obtain ⟨L, h1, h2, h3⟩ := h
  exact ⟨L, ch.own_same h1 hb, h2, h3⟩
theorem GR_lt {W0 wr : World} {base : Nat} {v : Value} {l : List ch.Cnt} (h : GR W0 base wr v l) {g : Nat} (hg : v.ownBlock = some g) : base ≤ g ∧ g < wr.heap.size := by
  obtain ⟨L, h1, _⟩ := h
  exact ch.own_lt h1 hg
theorem GR_view {W0 wr : World} {base : Nat} {v : Value} {l : List ch.Cnt} (h : GR W0 base wr v l) (hb : Below W0.heap.size W0 wr) : ∃ ad cap, v = .slice ad l.length cap ∧ ch.viewAt wr ad l := by
  obtain ⟨L, h1, rfl, h3⟩ := h
  obtain ⟨ad, cap, e, hg⟩ := ch.row_form h1
  subst e
  refine ⟨ad, cap, by rw [ch.out_len], fun i hi => ?_⟩
  rw [ch.out_len] at hi
  obtain ⟨g, rfl⟩ := hg (by omega)
  have hp := List.getElem_mem hi
  obtain ⟨ra, rc, e1, e2⟩ := h3 L[i] hp
  rw [ch.out_at L i L[i] (List.getElem?_eq_getElem hi)]
  have hf := ch.flatP_at L i L[i] (List.getElem?_eq_getElem hi)
  have c1 := World.ownsRow.cells h1 (g := g) rfl (i * 2) _ hf.1
  have c2 := World.ownsRow.cells h1 (g := g) rfl (i * 2 + 1) _ hf.2
  rw [ch.addr_add] at c1 c2
  rw [e1] at c1
  refine ⟨g, 0, ra, rc, rfl, c1, rowAt_below e2 hb, ?_⟩
  rw [Nat.add_assoc]
  exact c2
/-- the rows of a key -/
def ofKey (kf : ch.Cnt → List UInt8) (vs : List ch.Cnt) (k : List UInt8) : List ch.Cnt := vs.filter fun c => kf c == k
theorem ofKey_snoc (kf : ch.Cnt → List UInt8) (vs : List ch.Cnt) (c : ch.Cnt) (k : List UInt8) : ofKey kf (vs ++ [c]) k = ofKey kf vs k ++ (if kf c = k then [c] else []) := by
  unfold ofKey
  rw [List.filter_append]
  by_cases h : kf c = k <;> simp [h]
structure GS (W0 : World) (base : Nat) (wr : World) (B nn : Nat) (kf : ch.Cnt → List UInt8) (vs : List ch.Cnt) (kv : ch.KV) : Prop where
  map : wr.ownsMap Tryz.prog 9 hElem B nn (ch.toD kv)
  up : ch.rising kv
  lowB : B < base
  low : base ≤ wr.heap.size
  each : ∀ p ∈ kv, p.2 ≠ 0 ∧ ∃ v, isAt v p.2 ∧ GR W0 base wr v (ofKey kf vs p.1) ∧ ofKey kf vs p.1 ≠ []
  all : ∀ c ∈ vs, ∃ p ∈ kv, p.1 = kf c
  apart : ∀ p ∈ kv, ∀ q ∈ kv, p.1 ≠ q.1 → ∀ v u, isAt v p.2 → isAt u q.2 → ∀ g, v.ownBlock = some g → u.ownBlock ≠ some g
theorem GS_start (w W0 : World) (kf : ch.Cnt → List UInt8) : GS W0 (w.heap.size + 1) (w.alloc (.map #[] 0)) w.heap.size 0 kf [] [] :=
  ⟨World.ownsMap_made _ _ _ _, List.Pairwise.nil, Nat.lt_succ_self _, by simp, fun p hp => (by cases hp), fun c hc => (by cases hc), fun p hp => (by cases hp)⟩
theorem GS_below {W0 wr w' : World} {base B nn : Nat} {kf : ch.Cnt → List UInt8} {vs : List ch.Cnt} {kv : ch.KV} (h : GS W0 base wr B nn kf vs kv) (hb : Below wr.heap.size wr w') : GS W0 base w' B nn kf vs kv := by
  refine ⟨h.map.kept (row := none) ⟨hb.os, hb.tape, hb.output, hb.size, fun k hk _ => hb.block k hk⟩ (by simp), h.up, h.lowB, Nat.le_trans h.low hb.size, fun p hp => ?_, h.all, h.apart⟩
  obtain ⟨h0, v, h1, h2, h3⟩ := h.each p hp
  exact ⟨h0, v, h1, GR_keep h2 (fun g hg => hb.block g (GR_lt h2 hg).2), h3⟩
theorem zeroCs (w : World) : (zeroValue 27).run Tryz.prog w = .ok (.slice none 0 0) w := by kernel_rfl
/-- what a look-up brings -/
theorem GS_look {W0 wr : World} {base B nn : Nat} {kf : ch.Cnt → List UInt8} {vs : List ch.Cnt} {kv : ch.KV} (h : GS W0 base wr B nn kf vs kv) (k : ByteArray) (hk : k.size ≤ maxLen) :
    ∃ v, (Instr.lookup 76 (.map (some B)) (.string k) false).run Tryz.prog wr = .ok v wr ∧ isAt v (ch.getK kv k.data.toList) ∧ GR W0 base wr v (ofKey kf vs k.data.toList) := by
  obtain ⟨v, ps, hrun, hv⟩ := h.map.lookup ch.law Tryz.underlying76 (zeroCs _) (zd := .lit (.int .i64 0)) (zp := []) rfl (keyOf_string_mk Tryz.underlying9 hk)
  rw [ch.toD_at] at hv
  have hps : ps = [] := by
    unfold hElem at hv
    split at hv
    · simp only [Option.some.injEq, Prod.mk.injEq] at hv; exact hv.2.symm
    · simp only [Option.some.injEq, Prod.mk.injEq] at hv; exact hv.2.symm
    · cases hv
  subst hps
  refine ⟨v, hrun, hv, ?_⟩
  by_cases e : ch.getK kv k.data.toList = 0
  · have hv0 : isAt v 0 := by rw [e] at hv; exact hv
    have hn := isAt_zero hv0
    subst hn
    have hf : ofKey kf vs k.data.toList = [] := by
      unfold ofKey
      rw [List.filter_eq_nil_iff]
      intro c hc hkc
      obtain ⟨p, hp, e1⟩ := h.all c hc
      have e2 : kf c = k.data.toList := by simpa using hkc
      have h1 := ch.getK_of h.up hp
      rw [e1, e2, e] at h1
      exact (h.each p hp).1 h1.symm
    rw [hf]
    exact GR_nil _ _ _
  · obtain ⟨_, u, h1, h2, _⟩ := h.each _ (ch.getK_mem e)
    have := isAt_inj hv h1
    subst this
    exact h2
/-- one row more -/
theorem GS_put {W0 wr w2 w3 : World} {base B nn : Nat} {kf : ch.Cnt → List UInt8} {vs : List ch.Cnt} {kv : ch.KV} {c : ch.Cnt} {v : Value} {L : ch.PL} {ad : Option Addr} {rc g cap : Nat} {o : Obj} (h : GS W0 base wr B nn kf vs kv)
    (hv : isAt v (ch.getK kv (kf c))) (hL : wr.ownsRow base 45 2 v L.length (ch.flatP L)) (hLo : ch.outOf L = ofKey kf vs (kf c)) (hLr : ∀ p ∈ L, ∃ ad cap, p.1 = .slice ad p.2.r.length cap ∧ vl.rowAt W0 ad p.2.r)
    (hr : vl.rowAt W0 ad c.r) (hg1 : (wr.alloc o).grownBy w2 v.ownBlock) (hat : v.ownBlock = some g ∨ g = wr.heap.size + 1) (hown : w2.ownsRow base 45 2 (.slice (some ⟨g, 0, none⟩) (L.length + 1) cap) (L.length + 1) (ch.flatP (L ++ [(.slice ad c.r.length rc, c)])))
    (hmap : w3.ownsMap Tryz.prog 9 hElem B (nn + 1) ((ch.toD kv).put (.string (kf c)) (.lit (.int .i64 ((pr (pr g (L.length + 1)) cap : Nat) + 1))))) (hg2 : w2.grownBy w3 (some B)) :
    GS W0 base w3 B (nn + 1) kf (vs ++ [c]) (ch.putK kv (kf c) ((pr (pr g (L.length + 1)) cap : Nat) + 1)) := by
  have hlow := h.low
  have hlB := h.lowB
  have hs2 : wr.heap.size + 1 ≤ w2.heap.size := by have := hg1.size; simpa using this
  have hs3 := hg2.size
  have hvlt : ∀ b, v.ownBlock = some b → base ≤ b ∧ b < wr.heap.size := fun b hb => ch.own_lt hL hb
  have hgB : base ≤ g := by
    rcases hat with h1 | h1
    · exact (hvlt g h1).1
    · omega
  have hblk : ∀ b, b < wr.heap.size → v.ownBlock ≠ some b → b ≠ B → w3.heap[b]? = wr.heap[b]? := fun b hb hne hnB => by
    rw [hg2.block b (by omega) (fun e => hnB (by cases e; rfl)), hg1.block b (by simp; omega) (fun e => hne e.symm)]
    exact Below.heap_alloc _ _ b hb
  rw [ch.toD_put] at hmap
  have hvq : ∀ q ∈ kv, q.1 ≠ kf c → ∀ u, isAt u q.2 → ∀ b, u.ownBlock = some b → v.ownBlock ≠ some b := fun q hq hne u hu b hb => by
    by_cases e : ch.getK kv (kf c) = 0
    · rw [e] at hv
      rw [isAt_zero hv]
      intro h; cases h
    · exact fun e2 => h.apart _ (ch.getK_mem e) q hq (fun e => hne e.symm) v u hv hu b e2 hb
  refine ⟨hmap, ch.rising_put h.up _ _, hlB, by omega, fun p hp => ?_, fun x hx => ?_, fun p hp q hq hne a b ha hb b' hb1 hb2 => ?_⟩
  · rcases ch.mem_put.1 hp with rfl | ⟨hp, hne⟩
    · refine ⟨by show (_ : Int) ≠ 0; omega, .slice (some ⟨g, 0, none⟩) (L.length + 1) cap, rfl, ⟨L ++ [(.slice ad c.r.length rc, c)], ?_, ?_, ?_⟩, ?_⟩
      · rw [List.length_append]
        refine ch.own_same hown (fun b hb => ?_)
        have hbg : b = g := by cases hb; rfl
        subst hbg
        have hlt := (ch.own_lt hown (g := b) rfl).2
        exact hg2.block b hlt (fun e => by cases e; omega)
      · rw [ofKey_snoc, if_pos rfl, ← hLo]
        simp [ch.outOf]
      · intro x hx
        rcases List.mem_append.1 hx with hx | hx
        · exact hLr x hx
        · rw [List.mem_singleton.1 hx]
          exact ⟨ad, rc, rfl, hr⟩
      · rw [ofKey_snoc, if_pos rfl]; simp
    · obtain ⟨h0, u, h1, h2, h3⟩ := h.each p hp
      have ek : ofKey kf (vs ++ [c]) p.1 = ofKey kf vs p.1 := by rw [ofKey_snoc, if_neg (fun e => hne e.symm), List.append_nil]
      refine ⟨h0, u, h1, ?_, by rw [ek]; exact h3⟩
      rw [ek]
      refine GR_keep h2 (fun b hb => hblk b (GR_lt h2 hb).2 (hvq p hp hne u h1 b hb) (by have := (GR_lt h2 hb).1; omega))
  · rcases List.mem_append.1 hx with hx | hx
    · obtain ⟨p, hp, e⟩ := h.all x hx
      by_cases e2 : p.1 = kf c
      · exact ⟨_, ch.mem_put.2 (.inl rfl), e2.symm.trans e⟩
      · exact ⟨p, ch.mem_put.2 (.inr ⟨hp, e2⟩), e⟩
    · rw [List.mem_singleton.1 hx]
      exact ⟨_, ch.mem_put.2 (.inl rfl), rfl⟩
  · have hnew : ∀ q ∈ kv, q.1 ≠ kf c → ∀ u, isAt u q.2 → u.ownBlock ≠ some g := fun q hq hne u hu e => by
      obtain ⟨_, u', h1, h2, _⟩ := h.each q hq
      have := isAt_inj hu h1
      subst this
      rcases hat with h5 | h5
      · exact hvq q hq hne u hu g e h5
      · have := (GR_lt h2 e).2; omega
    rcases ch.mem_put.1 hp with rfl | ⟨hp', hpn⟩ <;> rcases ch.mem_put.1 hq with rfl | ⟨hq', hqn⟩
    · exact hne rfl
    · have ha' := isAt_inj ha (isAt_some g (L.length + 1) cap)
      subst ha'
      have : b' = g := by cases hb1; rfl
      subst this
      exact hnew q hq' hqn b hb hb2
    · have hb' := isAt_inj hb (isAt_some g (L.length + 1) cap)
      subst hb'
      have : b' = g := by cases hb2; rfl
      subst this
      exact hnew p hp' hpn a ha hb1
    · exact h.apart p hp' q hq' hne a b ha hb b' hb1 hb2
end Go.Proofs.YtbiiignmikbbnaaGreat.bt
