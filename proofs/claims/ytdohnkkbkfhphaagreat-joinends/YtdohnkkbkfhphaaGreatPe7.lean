import Derived.Test.YtdohnkkbkfhphaaGreatPe6
namespace Go.Proofs.YtdohnkkbkfhphaaGreat.bf
open Go.ChangeShapes Go.WideShapes Go.ChangeAt Go.RowKit Go.Shelf
open vl
set_option linter.unusedVariables false
set_option linter.unusedSimpArgs false
attribute [local go_sem] Oper.semAt_some
def plOf (x : Ent) : Plc := (x.key, x.time, x.seq)
theorem plOf_same {a b : Ent} : plOf a = plOf b ↔ sameP a b := by
 unfold plOf sameP
 simp [Prod.mk.injEq]
def hasB (l : List Ent) (p : Plc) : Bool := l.any fun x => decide (plOf x = p)
def anyO : Nat → Obj → Prop := fun _ _ => True
theorem names_any {W : World} {b : Nat} : names anyO W b := fun _ _ => trivial
theorem keep_any {n : Nat} {W W' : World} (h : Below n W W') (hn : W.heap.size ≤ n) : KeepO anyO W W' := fun b o h1 _ _ => (h.block b (by have := (Array.getElem?_eq_some_iff.1 h1).1; omega)).trans h1
theorem iter_all {w V : World} {b : Buf} {x : BX} (h : bufAt w b x) (hb : Below w.heap.size w V) (B : Nat) (Pr : Nat → Obj → Prop) (h0 : V.cell? ⟨B, 0, none⟩ = some (.int .i64 b.lim)) (h1 : V.cell? ⟨B, 1, none⟩ = some (hdV x.m.1)) (h2 : V.cell? ⟨B, 2, none⟩ = some (.slice x.ra x.rs.length x.rc))
 (hS : names Pr V B) (hlow : ∀ b, b < w.heap.size → names Pr V b)
 (hP1 : ∀ b c f, V.heap.size ≤ b → Pr b (.cells c 29 f)) (hP2 : ∀ b c f, V.heap.size ≤ b → Pr b (.cells c 110 f)) :
 Iter Tryz.prog 161 #[.pointer (some ⟨B, 0, none⟩)] ((ems (x.m :: x.rs)).map fun e => #[e.val]) (KeepO Pr) V :=
 all_iter B b.lim x.ra x.rc x.m x.rs Pr V (box_at (bufAt_below h hb) h0 h1 h2) hS (fun a ha hx => hlow _ (ra_lt h ha hx)) (fun p hp a h0 ha => by
  obtain ⟨b', o, e, y, _⟩ := h.ems p hp 0 h0
  rw [ha] at e; cases e
  exact hlow _ (World.block_lt_of_cell? _ _ y)) hP1 hP2
theorem kf_below {B : Nat} {W W' : World} (h : Below W.heap.size W W') : KeepsFrom B W W' := ⟨h.size, fun k o _ h1 _ => (h.block k (Array.getElem?_eq_some_iff.1 h1).1).trans h1⟩
theorem put_cell {W : World} {b o D : Nat} {v : Value} {x : Obj} (h : W.cell? ⟨b, o, none⟩ = some v) (hD : W.heap[D]? = some x) (hx : x.isCells = false) (o' : Obj) : (W.putObj D o').cell? ⟨b, o, none⟩ = some v :=
 cell_kept h (grownBy_putObj' W D o') (fun r e => by cases e; exact ⟨x, hD, hx⟩)
set_option maxHeartbeats 8000000 in
theorem has_any (b : Buf) (x : BX) (p : Plc) (w : World) (h : bufAt w b x) :
 Calls Tryz.prog 265 #[bufV b x, plcV p] w fun e w' => e = .returned (.bool (hasB (entsB b) p)) ∧ Below w.heap.size w w' := by
 have HB : Hid (bufAt w b x) := h
 have HE := bufAt_ents h
 have HER : Hid (ERs w (ems (x.m :: x.rs)) (entsB b)) := HE
 obtain ⟨L, hL⟩ : ∃ z, entsB b = z := ⟨_, rfl⟩
 rw [hL] at HER ⊢
 clear hL h HE
 obtain ⟨R, hR⟩ : ∃ z, hasB L p = z := ⟨_, rfl⟩
 have HRR : Hid (hasB L p = R) := hR
 rw [hR]
 clear hR
 obtain ⟨ra, rc, ⟨⟨m1, m2, m3⟩, ml⟩, rs⟩ := x
 obtain ⟨lim, mem, runs⟩ := b
 obtain ⟨pk, pt, ps⟩ := p
 unfold bufV hdV plcV
 dsimp only at HER ⊢
 obtain ⟨n, hn⟩ : ∃ n, rs.length = n := ⟨_, rfl⟩
 have HN : Hid (rs.length = n) := hn
 rw [hn]
 clear hn
 refine (callsIn_wide (n := 0)).1 ?_
 refine callsIn_of_wp_marks Tryz.func265 rfl trivial ?_ rfl
 simp only [Tryz.ntmps265, List.size_toArray, List.length_cons, List.length_nil, Nat.reduceAdd, Nat.reduceSub, Array.replicate_succ, Array.replicate_zero, List.push_toArray, List.append_toArray, List.nil_append, List.cons_append]
 gi_wp2_with (refine ⟨trivial, rfl, ?_⟩; gi_at_call 113; refine (callsIn_wide.2 (all_any _ _ _ rfl rfl rfl _)).mono ?_; rintro e w' ⟨rfl, rfl⟩)
 have V0 : ((((w.alloc (.cells #[.int .i64 lim, .slice m1 m2 m3, .slice ra n rc] 29)).alloc (.cells #[.string pk, .int .i64 pt, .int .i64 ps] 232)).alloc (.cells #[.bool false] 4)).alloc (.cells #[.int .i64 lim, .slice m1 m2 m3, .slice ra n rc] 29)).cell? ⟨w.heap.size + 1, 0, none⟩ = some (.string pk) := by go_simp
 have V1 : ((((w.alloc (.cells #[.int .i64 lim, .slice m1 m2 m3, .slice ra n rc] 29)).alloc (.cells #[.string pk, .int .i64 pt, .int .i64 ps] 232)).alloc (.cells #[.bool false] 4)).alloc (.cells #[.int .i64 lim, .slice m1 m2 m3, .slice ra n rc] 29)).cell? ⟨w.heap.size + 1, 1, none⟩ = some (.int .i64 pt) := by go_simp
 have V2 : ((((w.alloc (.cells #[.int .i64 lim, .slice m1 m2 m3, .slice ra n rc] 29)).alloc (.cells #[.string pk, .int .i64 pt, .int .i64 ps] 232)).alloc (.cells #[.bool false] 4)).alloc (.cells #[.int .i64 lim, .slice m1 m2 m3, .slice ra n rc] 29)).cell? ⟨w.heap.size + 1, 2, none⟩ = some (.int .i64 ps) := by go_simp
 have V3 : ((((w.alloc (.cells #[.int .i64 lim, .slice m1 m2 m3, .slice ra n rc] 29)).alloc (.cells #[.string pk, .int .i64 pt, .int .i64 ps] 232)).alloc (.cells #[.bool false] 4)).alloc (.cells #[.int .i64 lim, .slice m1 m2 m3, .slice ra n rc] 29)).cell? ⟨w.heap.size + 1 + 1, 0, none⟩ = some (.bool false) := by go_simp
 have V4 : ((((w.alloc (.cells #[.int .i64 lim, .slice m1 m2 m3, .slice ra n rc] 29)).alloc (.cells #[.string pk, .int .i64 pt, .int .i64 ps] 232)).alloc (.cells #[.bool false] 4)).alloc (.cells #[.int .i64 lim, .slice m1 m2 m3, .slice ra n rc] 29)).frozen? ⟨w.heap.size + 1 + 1, 0, none⟩ = false := by go_simp
 have V5 : ((((w.alloc (.cells #[.int .i64 lim, .slice m1 m2 m3, .slice ra n rc] 29)).alloc (.cells #[.string pk, .int .i64 pt, .int .i64 ps] 232)).alloc (.cells #[.bool false] 4)).alloc (.cells #[.int .i64 lim, .slice m1 m2 m3, .slice ra n rc] 29)).cell? ⟨w.heap.size + 1 + 1 + 1, 0, none⟩ = some (.int .i64 lim) := by go_simp
 have V6 : ((((w.alloc (.cells #[.int .i64 lim, .slice m1 m2 m3, .slice ra n rc] 29)).alloc (.cells #[.string pk, .int .i64 pt, .int .i64 ps] 232)).alloc (.cells #[.bool false] 4)).alloc (.cells #[.int .i64 lim, .slice m1 m2 m3, .slice ra n rc] 29)).cell? ⟨w.heap.size + 1 + 1 + 1, 1, none⟩ = some (.slice m1 m2 m3) := by go_simp
 have V7 : ((((w.alloc (.cells #[.int .i64 lim, .slice m1 m2 m3, .slice ra n rc] 29)).alloc (.cells #[.string pk, .int .i64 pt, .int .i64 ps] 232)).alloc (.cells #[.bool false] 4)).alloc (.cells #[.int .i64 lim, .slice m1 m2 m3, .slice ra n rc] 29)).cell? ⟨w.heap.size + 1 + 1 + 1, 2, none⟩ = some (.slice ra n rc) := by go_simp
 have V8 : Below w.heap.size w ((((w.alloc (.cells #[.int .i64 lim, .slice m1 m2 m3, .slice ra n rc] 29)).alloc (.cells #[.string pk, .int .i64 pt, .int .i64 ps] 232)).alloc (.cells #[.bool false] 4)).alloc (.cells #[.int .i64 lim, .slice m1 m2 m3, .slice ra n rc] 29)) := by
  repeat (first | exact bR | (refine Below.alloc ?_ (by simp <;> omega) _))
 have V9 : ((((w.alloc (.cells #[.int .i64 lim, .slice m1 m2 m3, .slice ra n rc] 29)).alloc (.cells #[.string pk, .int .i64 pt, .int .i64 ps] 232)).alloc (.cells #[.bool false] 4)).alloc (.cells #[.int .i64 lim, .slice m1 m2 m3, .slice ra n rc] 29)).heap.size = w.heap.size + 1 + 1 + 1 + 1 := by simp
 generalize ((((w.alloc (.cells #[.int .i64 lim, .slice m1 m2 m3, .slice ra n rc] 29)).alloc (.cells #[.string pk, .int .i64 pt, .int .i64 ps] 232)).alloc (.cells #[.bool false] 4)).alloc (.cells #[.int .i64 lim, .slice m1 m2 m3, .slice ra n rc] 29)) = V at *
 have hit := iter_all HB.out V8 (w.heap.size + 1 + 1 + 1) anyO V5 V6 (by rw [HN.out]; exact V7) names_any (fun _ _ => names_any) (fun _ _ _ _ => trivial) (fun _ _ _ _ => trivial)
 dsimp only at hit
 obtain ⟨E, hE⟩ : ∃ z, ems ((((m1, m2, m3) : Hdr), ml) :: rs) = z := ⟨_, rfl⟩
 rw [hE] at hit HER
 clear hE
 refine range_law (gf := 161) (lb := #[.pointer (some ⟨w.heap.size + 1 + 1 + 1, 0, none⟩)]) rfl (enters_of Tryz.func161 (by kernel_rfl) rfl) hit bR (fun x hx => by obtain ⟨p, _, rfl⟩ := List.mem_map.1 hx; rfl) (fun h k => KeepO.trans h k) (fun W l o o' _ h ho => KeepO.put W l o o' h ho)
  (fun i X => (∀ j, j < i → plOf (L.getD j default) ≠ (pk, pt, ps)) ∧ KeepO anyO V X ∧ X.frozen? ⟨w.heap.size + 1 + 1, 0, none⟩ = false ∧ Below w.heap.size w X) (fun c X => c = .ret ∧ true = R ∧ X.cell? ⟨w.heap.size + 1 + 1, 0, none⟩ = some (.bool true) ∧ Below w.heap.size w X)
  (fun i X X' row hs hg hr => ⟨hs.1, hs.2.1.grown hg (fun r e => (hr r e).2), (frozen_kept (hs.2.1.cell names_any V3) hg (fun r e => (hr r e).2)).trans hs.2.2.1, own_low hs.2.2.2 nR (by omega) hg hr⟩)
  (fun c X X' row hs hg hr => ⟨hs.1, hs.2.1, cell_kept hs.2.2.1 hg (fun r e => (hr r e).2), own_low hs.2.2.2 nR (by omega) hg hr⟩)
  ⟨fun j hj => absurd hj (Nat.not_lt_zero j), KeepO.refl _ _, V4, V8⟩
  (fun i a' X => ∃ B, a' = { tmps := #[.agg #[.int .i64 lim, .slice m1 m2 m3, .slice ra n rc], .agg #[.string pk, .int .i64 pt, .int .i64 ps], .pointer (some ⟨w.heap.size, 0, none⟩), .pointer (some ⟨w.heap.size + 1, 0, none⟩), .pointer (some ⟨w.heap.size + 1 + 1, 0, none⟩), .pointer (some ⟨B, 0, none⟩), .agg #[.int .i64 lim, .slice m1 m2 m3, .slice ra n rc], .func (.func 161) #[] #[.pointer (some ⟨w.heap.size + 1 + 1 + 1, 0, none⟩)], (E.getD i default).val, undef, undef, undef, undef], defers := [] } ∧ X.cell? ⟨B, 0, none⟩ = some (.string (E.getD i default).key) ∧ X.cell? ⟨B, 1, none⟩ = some (.int .i64 (E.getD i default).time) ∧ X.cell? ⟨B, 2, none⟩ = some (.int .i64 (E.getD i default).seq) ∧ X.cell? ⟨B, 3, none⟩ = some (hdV (E.getD i default).row) ∧ X.cell? ⟨B, 4, none⟩ = some (.bool (E.getD i default).met))
  (fun i a' u X X' row hs hg hr => by
   obtain ⟨B, h1, h2, h3, h4, h5, h6⟩ := hs
   exact ⟨B, h1, cell_kept h2 hg (fun r e => (hr r e).2), cell_kept h3 hg (fun r e => (hr r e).2), cell_kept h4 hg (fun r e => (hr r e).2), cell_kept h5 hg (fun r e => (hr r e).2), cell_kept h6 hg (fun r e => (hr r e).2)⟩) ?assign ?body ?done ?stop
 case assign =>
  intro l' k x X K hx hi hK
  obtain ⟨hk, hxe⟩ := List.getElem?_eq_some_iff.1 hx
  rw [List.length_map] at hk
  rw [List.getElem_map] at hxe
  subst hxe
  have hd : E.getD k default = E[k] := by rw [List.getD_eq_getElem?_getD, List.getElem?_eq_getElem hk]; rfl
  have hK2 := hK
  rw [hd] at hK2
  clear hK hd hx
  obtain ⟨⟨ek, et, es, ⟨r1, r2, r3⟩, em⟩, hz⟩ : ∃ z, E[k] = z := ⟨_, rfl⟩
  rw [hz] at hK2 ⊢
  unfold EM.val hdV at hK2 ⊢
  dsimp only at hK2 ⊢
  obtain ⟨j1, j2, j3, j4⟩ := hi
  gi_wp2
  have lX : w.heap.size + 1 + 1 < X.heap.size := World.block_lt_of_cell? _ _ (j2.cell names_any V3)
  exact hK2 _ _ ((KeepsOthers.alloc _ _).from _) (KeepO.alloc _ _) ⟨j1, j2.trans (KeepO.alloc _ _), by go_simp, j4.alloc j4.size _⟩ ⟨X.heap.size, rfl, by go_simp, by go_simp, by go_simp, by go_simp, by go_simp⟩
 case body =>
  intro l' i x a' X hx hl' hrec hIi hax
  obtain ⟨j1, j2, j3, j4⟩ := hIi
  obtain ⟨B, hax, b0, b1, b2, b3, b4⟩ := hax
  subst hax
  obtain ⟨hi, _⟩ := List.getElem?_eq_some_iff.1 hx
  rw [List.length_map] at hi
  have hEL := HER.out.1
  have her := HER.out.2 i (by omega)
  have KP : Hid (∀ w1, Calls Tryz.prog 186 #[(E.getD i default).val] w1 fun r w' => r = .returned (.agg #[.string (E.getD i default).key, .int .i64 (E.getD i default).time, .int .i64 (E.getD i default).seq]) ∧ Below w1.heap.size w1 w') := fun w1 => placeOf_any _ w1
  have hpl : plOf (L.getD i default) = ((E.getD i default).key, (E.getD i default).time, (E.getD i default).seq) := by unfold plOf; rw [her.key, her.time, her.seq]
  have HMEM : Hid (L.getD i default ∈ L) := by show _ ∈ _; rw [List.getD_eq_getElem?_getD, List.getElem?_eq_getElem (by omega)]; simp
  obtain ⟨⟨ek, et, es, ⟨r1, r2, r3⟩, em⟩, hz⟩ : ∃ z, E.getD i default = z := ⟨_, rfl⟩
  rw [hz] at KP b0 b1 b2 b3 b4 hpl ⊢
  unfold EM.val hdV at KP
  unfold hdV at b3
  dsimp only at KP b0 b1 b2 b3 b4 hpl
  have HPL : Hid (plOf (L.getD i default) = (ek, et, es)) := hpl
  have c0 := j2.cell names_any V0
  have c1 := j2.cell names_any V1
  have c2 := j2.cell names_any V2
  have c3 := j2.cell names_any V3
  have lX : w.heap.size + 1 + 1 < X.heap.size := World.block_lt_of_cell? _ _ c3
  have hmx : Tryz.prog.follows .mixedOrders = true := by kernel_rfl
  clear hz hpl her hEL hx
  by_cases hE : (ek, et, es) = (pk, pt, ps)
  ·have HE : Hid (true = R) := by
    show _ = _
    rw [← HRR.out]
    exact (List.any_eq_true.2 ⟨_, HMEM.out, by rw [HPL.out]; simpa using hE⟩).symm
   injection hE with e1 e23
   injection e23 with e2 e3
   subst e1 e2 e3
   gi_wp2
   gi_region_with_o (refine ⟨trivial, rfl, ?_⟩; gi_at_call 186; refine (CallsIn.inRound l' (callsIn_wide.2 (KP.out _))).mono ?_; rintro e w2 ⟨rfl, hb2⟩; have k0 := cLz hb2 c0; have k1 := cLz hb2 c1; have k2 := cLz hb2 c2; have k3 := cLz hb2 c3; have kf : w2.frozen? ⟨w.heap.size + 1 + 1, 0, none⟩ = false := (by rw [hb2.frozen (p := ⟨w.heap.size + 1 + 1, 0, none⟩) lX]; exact j3); have hb3 : Below X.heap.size X w2 := bR.drew.trans hb2)
   all_goals
    gi_wp2
    exact ⟨(kf_below hb3).trans ((KeepsOthers.setCell _ _ _).from _), rfl, HE.out, World.cell?_setCell_same _ _ _ k3, (j4.trans (hb3.mono j4.size)).setCell (by dsimp only; omega) _⟩
  ·have hno : ((ek.toList == pk.toList) && ((et == pt) && (es == ps))) = false := by
    rw [bytes_beq]
    by_cases e1 : ek = pk
    ·by_cases e2 : et = pt
     ·have e3 : es ≠ ps := fun e3 => hE (by rw [e1, e2, e3])
      simp [e1, e2, e3]
     ·simp [e1, e2]
    ·simp [e1]
   have HNE : Hid (plOf (L.getD i default) ≠ (pk, pt, ps)) := by show _ ≠ _; rw [HPL.out]; exact hE
   by_cases t1 : ek.toList = pk.toList
   ·by_cases t2 : et = pt
    ·have t3 : (es == ps) = false := by
      rw [beq_eq_false_iff_ne]
      intro e3
      have e1 : ek = pk := by have := bytes_beq ek pk; rw [t1] at this; simpa using this.symm
      exact hE (by rw [e1, t2, e3])
     subst t2
     gi_wp2
     gi_region_with_o (refine ⟨trivial, rfl, ?_⟩; gi_at_call 186; refine (CallsIn.inRound l' (callsIn_wide.2 (KP.out _))).mono ?_; rintro e w2 ⟨rfl, hb2⟩; have k0 := cLz hb2 c0; have k1 := cLz hb2 c1; have k2 := cLz hb2 c2; have hb3 : Below X.heap.size X w2 := bR.drew.trans hb2)
     all_goals
      gi_wp2
      exact ⟨kf_below hb3, keep_any hb3 nR, fun j hj => by
       rcases Nat.lt_succ_iff_lt_or_eq.1 hj with h | h
       ·exact j1 j h
       ·rw [h]; exact HNE.out, j2.trans (keep_any hb3 nR), by rw [hb3.frozen (p := ⟨w.heap.size + 1 + 1, 0, none⟩) lX]; exact j3, j4.trans (hb3.mono j4.size)⟩
    ·have t2' : (et == pt) = false := by simpa using t2
     gi_wp2
     gi_region_with_o (refine ⟨trivial, rfl, ?_⟩; gi_at_call 186; refine (CallsIn.inRound l' (callsIn_wide.2 (KP.out _))).mono ?_; rintro e w2 ⟨rfl, hb2⟩; have k0 := cLz hb2 c0; have k1 := cLz hb2 c1; have k2 := cLz hb2 c2; have hb3 : Below X.heap.size X w2 := bR.drew.trans hb2)
     all_goals
      gi_wp2
      exact ⟨kf_below hb3, keep_any hb3 nR, fun j hj => by
       rcases Nat.lt_succ_iff_lt_or_eq.1 hj with h | h
       ·exact j1 j h
       ·rw [h]; exact HNE.out, j2.trans (keep_any hb3 nR), by rw [hb3.frozen (p := ⟨w.heap.size + 1 + 1, 0, none⟩) lX]; exact j3, j4.trans (hb3.mono j4.size)⟩
   ·skip
    gi_wp2
    gi_region_with_o (refine ⟨trivial, rfl, ?_⟩; gi_at_call 186; refine (CallsIn.inRound l' (callsIn_wide.2 (KP.out _))).mono ?_; rintro e w2 ⟨rfl, hb2⟩; have k0 := cLz hb2 c0; have k1 := cLz hb2 c1; have k2 := cLz hb2 c2; have hb3 : Below X.heap.size X w2 := bR.drew.trans hb2)
    all_goals
     gi_wp2
     exact ⟨kf_below hb3, keep_any hb3 nR, fun j hj => by
      rcases Nat.lt_succ_iff_lt_or_eq.1 hj with h | h
      ·exact j1 j h
      ·rw [h]; exact HNE.out, j2.trans (keep_any hb3 nR), by rw [hb3.frozen (p := ⟨w.heap.size + 1 + 1, 0, none⟩) lX]; exact j3, j4.trans (hb3.mono j4.size)⟩
 case done =>
  rintro D X hD ⟨j1, j2, j3, j4⟩ hK
  have c3 := j2.cell names_any V3
  have HE : Hid (false = R) := by
   show _ = _
   rw [← HRR.out]
   symm
   rw [List.length_map] at j1
   refine List.any_eq_false.2 (fun x hx => ?_)
   obtain ⟨j, hj, rfl⟩ := List.getElem_of_mem hx
   have := j1 j (by rw [HER.out.1]; exact hj)
   rw [List.getD_eq_getElem?_getD, List.getElem?_eq_getElem hj] at this
   simpa using this
  gi_wp2
  have hK2 : (X.setCell ⟨w.heap.size + 1 + 1, 0, none⟩ (.bool false)).heap[D]? = some (.deferred (some [])) := (heap_setCell_other _ _ _ _ (by dsimp only; omega)).trans hK
  refine ⟨by simp, .inl ⟨_, _, rfl, run_takeDeferred hK2, ?_⟩⟩
  have y3 := put_cell (World.cell?_setCell_same _ _ (.bool false) c3) hK2 rfl (.deferred none)
  exact ⟨.bool false, (by simp [results, Tryz.results265, go_sem, y3]), ret_bool HE.out, put_low (j4.setCell (by dsimp only; omega) _) (by omega) hK2 _⟩
 case stop =>
  rintro D c X hD ⟨rfl, hE, c3, j4⟩ hK
  gi_wp2
  refine ⟨by simp, .inl ⟨_, _, rfl, run_takeDeferred hK, ?_⟩⟩
  have y3 := put_cell c3 hK rfl (.deferred none)
  exact ⟨.bool true, (by simp [results, Tryz.results265, go_sem, y3]), ret_bool hE, put_low j4 (by omega) hK _⟩
def onceB (l : List Ent) : Bool := decide ((l.map plOf).Nodup)
def plsT (l : List Ent) (i : Nat) : List Plc := (l.take i).map plOf
theorem plsT_succ {l : List Ent} {i : Nat} (h : i < l.length) : plsT l (i + 1) = plsT l i ++ [plOf (l.getD i default)] := by
 unfold plsT
 rw [List.take_succ_eq_append_getElem h, List.map_append, List.getD_eq_getElem?_getD, List.getElem?_eq_getElem h]; rfl
theorem nodup_take {l : List Ent} (h : (plsT l l.length).Nodup) : onceB l = true := by
 unfold plsT at h
 rw [List.take_length] at h
 exact decide_eq_true h
theorem dup_at {l : List Ent} {i : Nat} (h : i < l.length) (hm : plOf (l.getD i default) ∈ plsT l i) : onceB l = false := by
 refine decide_eq_false (fun hn => ?_)
 have e : l.map plOf = plsT l (i + 1) ++ (l.drop (i + 1)).map plOf := by
  unfold plsT; rw [← List.map_append, List.take_append_drop]
 rw [e, plsT_succ h] at hn
 have := (List.nodup_append.1 (List.nodup_append.1 hn).1).2.2 _ hm _ (List.mem_singleton.2 rfl)
 exact this rfl
theorem nodup_snoc {l : List Ent} {i : Nat} (h : i < l.length) (hn : (plsT l i).Nodup) (hm : plOf (l.getD i default) ∉ plsT l i) : (plsT l (i + 1)).Nodup := by
 rw [plsT_succ h]
 refine List.nodup_append.2 ⟨hn, by simp, fun a ha b hb => ?_⟩
 rw [List.mem_singleton.1 hb]
 exact fun e => hm (by rw [← e]; exact ha)
theorem mapAt_below {W W' : World} {M n : Nat} {ps : List Plc} (h : mapAt W M ps) (hb : Below n W W') (hM : M < n) : mapAt W' M ps := (hb.block M hM).trans h
theorem kf_grown {B M : Nat} {W W' : World} (hg : W.grownBy W' (some M)) (hM : M < B) : KeepsFrom B W W' := ⟨hg.size, fun k o hk h _ => (hg.block k (Array.getElem?_eq_some_iff.1 h).1 (fun e => by cases e; omega)).trans h⟩
theorem ko_grown {Pr : Nat → Obj → Prop} {W W' : World} {M : Nat} {ps : List Plc} (hm : mapAt W M ps) (hg : W.grownBy W' (some M)) : KeepO Pr W W' := (KeepO.refl Pr W).grown hg (fun r e => by cases e; exact ⟨_, hm, rfl⟩)
theorem cell_grown {W W' : World} {M b o : Nat} {ps : List Plc} {v : Value} (hm : mapAt W M ps) (hg : W.grownBy W' (some M)) (h : W.cell? ⟨b, o, none⟩ = some v) : W'.cell? ⟨b, o, none⟩ = some v := cell_kept h hg (fun r e => by cases e; exact ⟨_, hm, rfl⟩)
theorem froz_grown {W W' : World} {M b o : Nat} {ps : List Plc} {v : Value} (hm : mapAt W M ps) (hg : W.grownBy W' (some M)) (h : W.cell? ⟨b, o, none⟩ = some v) (hf : W.frozen? ⟨b, o, none⟩ = false) : W'.frozen? ⟨b, o, none⟩ = false := (frozen_kept h hg (fun r e => by cases e; exact ⟨_, hm, rfl⟩)).trans hf
set_option maxHeartbeats 8000000 in
theorem twice_any (b : Buf) (x : BX) (w : World) (h : bufAt w b x) (hw : ∀ y ∈ entsB b, wfP (plOf y)) :
 Calls Tryz.prog 139 #[bufV b x] w fun e w' => e = .returned (.bool (!onceB (entsB b))) ∧ Below w.heap.size w w' := by
 have HB : Hid (bufAt w b x) := h
 have HER : Hid (ERs w (ems (x.m :: x.rs)) (entsB b)) := bufAt_ents h
 obtain ⟨L, hL⟩ : ∃ z, entsB b = z := ⟨_, rfl⟩
 rw [hL] at HER hw ⊢
 have HW : Hid (∀ y ∈ L, wfP (plOf y)) := hw
 clear hL h hw
 obtain ⟨R, hR⟩ : ∃ z, (!onceB L) = z := ⟨_, rfl⟩
 have HRR : Hid ((!onceB L) = R) := hR
 rw [hR]
 clear hR
 obtain ⟨ra, rc, ⟨⟨m1, m2, m3⟩, ml⟩, rs⟩ := x
 obtain ⟨lim, mem, runs⟩ := b
 unfold bufV hdV
 dsimp only at HER ⊢
 obtain ⟨n, hn⟩ : ∃ n, rs.length = n := ⟨_, rfl⟩
 have HN : Hid (rs.length = n) := hn
 rw [hn]
 clear hn
 have hmk := @run_makeMap Tryz.prog
 refine (callsIn_wide (n := 0)).1 ?_
 refine callsIn_of_wp_marks Tryz.func139 rfl trivial ?_ rfl
 simp only [Tryz.ntmps139, List.size_toArray, List.length_cons, List.length_nil, Nat.reduceAdd, Nat.reduceSub, Array.replicate_succ, Array.replicate_zero, List.push_toArray, List.append_toArray, List.nil_append, List.cons_append]
 gi_wp2_with (refine ⟨trivial, rfl, ?_⟩; gi_at_call 113; refine (callsIn_wide.2 (all_any _ _ _ rfl rfl rfl _)).mono ?_; rintro e w' ⟨rfl, rfl⟩)
 have V0 : (((((w.alloc (.cells #[.int .i64 lim, .slice m1 m2 m3, .slice ra n rc] 29)).alloc (.cells #[.bool false] 4)).alloc (.map #[] 0)).alloc (.cells #[.map (some (w.heap.size + 1 + 1))] 230)).alloc (.cells #[.int .i64 lim, .slice m1 m2 m3, .slice ra n rc] 29)).cell? ⟨w.heap.size + 1 + 1 + 1, 0, none⟩ = some (.map (some (w.heap.size + 1 + 1))) := by go_simp
 have V2 : mapAt (((((w.alloc (.cells #[.int .i64 lim, .slice m1 m2 m3, .slice ra n rc] 29)).alloc (.cells #[.bool false] 4)).alloc (.map #[] 0)).alloc (.cells #[.map (some (w.heap.size + 1 + 1))] 230)).alloc (.cells #[.int .i64 lim, .slice m1 m2 m3, .slice ra n rc] 29)) (w.heap.size + 1 + 1) [] := by
  show (((((w.alloc (.cells #[.int .i64 lim, .slice m1 m2 m3, .slice ra n rc] 29)).alloc (.cells #[.bool false] 4)).alloc (.map #[] 0)).alloc (.cells #[.map (some (w.heap.size + 1 + 1))] 230)).alloc (.cells #[.int .i64 lim, .slice m1 m2 m3, .slice ra n rc] 29)).heap[w.heap.size + 1 + 1]? = some (.map #[] 0)
  have h := World.alloc_heap_new ((w.alloc (.cells #[.int .i64 lim, .slice m1 m2 m3, .slice ra n rc] 29)).alloc (.cells #[.bool false] 4)) (.map #[] 0)
  rw [World.size_alloc, World.size_alloc] at h
  rw [Below.heap_alloc _ _ _ (by simp), Below.heap_alloc _ _ _ (by simp)]
  exact h
 have V3 : (((((w.alloc (.cells #[.int .i64 lim, .slice m1 m2 m3, .slice ra n rc] 29)).alloc (.cells #[.bool false] 4)).alloc (.map #[] 0)).alloc (.cells #[.map (some (w.heap.size + 1 + 1))] 230)).alloc (.cells #[.int .i64 lim, .slice m1 m2 m3, .slice ra n rc] 29)).cell? ⟨w.heap.size + 1, 0, none⟩ = some (.bool false) := by go_simp
 have V4 : (((((w.alloc (.cells #[.int .i64 lim, .slice m1 m2 m3, .slice ra n rc] 29)).alloc (.cells #[.bool false] 4)).alloc (.map #[] 0)).alloc (.cells #[.map (some (w.heap.size + 1 + 1))] 230)).alloc (.cells #[.int .i64 lim, .slice m1 m2 m3, .slice ra n rc] 29)).frozen? ⟨w.heap.size + 1, 0, none⟩ = false := by go_simp
 have V5 : (((((w.alloc (.cells #[.int .i64 lim, .slice m1 m2 m3, .slice ra n rc] 29)).alloc (.cells #[.bool false] 4)).alloc (.map #[] 0)).alloc (.cells #[.map (some (w.heap.size + 1 + 1))] 230)).alloc (.cells #[.int .i64 lim, .slice m1 m2 m3, .slice ra n rc] 29)).cell? ⟨w.heap.size + 1 + 1 + 1 + 1, 0, none⟩ = some (.int .i64 lim) := by go_simp
 have V6 : (((((w.alloc (.cells #[.int .i64 lim, .slice m1 m2 m3, .slice ra n rc] 29)).alloc (.cells #[.bool false] 4)).alloc (.map #[] 0)).alloc (.cells #[.map (some (w.heap.size + 1 + 1))] 230)).alloc (.cells #[.int .i64 lim, .slice m1 m2 m3, .slice ra n rc] 29)).cell? ⟨w.heap.size + 1 + 1 + 1 + 1, 1, none⟩ = some (.slice m1 m2 m3) := by go_simp
 have V7 : (((((w.alloc (.cells #[.int .i64 lim, .slice m1 m2 m3, .slice ra n rc] 29)).alloc (.cells #[.bool false] 4)).alloc (.map #[] 0)).alloc (.cells #[.map (some (w.heap.size + 1 + 1))] 230)).alloc (.cells #[.int .i64 lim, .slice m1 m2 m3, .slice ra n rc] 29)).cell? ⟨w.heap.size + 1 + 1 + 1 + 1, 2, none⟩ = some (.slice ra n rc) := by go_simp
 have V8 : Below w.heap.size w (((((w.alloc (.cells #[.int .i64 lim, .slice m1 m2 m3, .slice ra n rc] 29)).alloc (.cells #[.bool false] 4)).alloc (.map #[] 0)).alloc (.cells #[.map (some (w.heap.size + 1 + 1))] 230)).alloc (.cells #[.int .i64 lim, .slice m1 m2 m3, .slice ra n rc] 29)) := by
  repeat (first | exact bR | (refine Below.alloc ?_ (by simp <;> omega) _))
 have V9 : (((((w.alloc (.cells #[.int .i64 lim, .slice m1 m2 m3, .slice ra n rc] 29)).alloc (.cells #[.bool false] 4)).alloc (.map #[] 0)).alloc (.cells #[.map (some (w.heap.size + 1 + 1))] 230)).alloc (.cells #[.int .i64 lim, .slice m1 m2 m3, .slice ra n rc] 29)).heap.size = w.heap.size + 1 + 1 + 1 + 1 + 1 := by simp
 generalize (((((w.alloc (.cells #[.int .i64 lim, .slice m1 m2 m3, .slice ra n rc] 29)).alloc (.cells #[.bool false] 4)).alloc (.map #[] 0)).alloc (.cells #[.map (some (w.heap.size + 1 + 1))] 230)).alloc (.cells #[.int .i64 lim, .slice m1 m2 m3, .slice ra n rc] 29)) = V at *
 have hit := iter_all HB.out V8 (w.heap.size + 1 + 1 + 1 + 1) anyO V5 V6 (by rw [HN.out]; exact V7) names_any (fun _ _ => names_any) (fun _ _ _ _ => trivial) (fun _ _ _ _ => trivial)
 dsimp only at hit
 obtain ⟨E, hE⟩ : ∃ z, ems ((((m1, m2, m3) : Hdr), ml) :: rs) = z := ⟨_, rfl⟩
 rw [hE] at hit HER
 clear hE hmk
 refine range_law (gf := 161) (lb := #[.pointer (some ⟨w.heap.size + 1 + 1 + 1 + 1, 0, none⟩)]) rfl (enters_of Tryz.func161 (by kernel_rfl) rfl) hit bR (fun x hx => by obtain ⟨p, _, rfl⟩ := List.mem_map.1 hx; rfl) (fun h k => KeepO.trans h k) (fun W l o o' _ h ho => KeepO.put W l o o' h ho)
  (fun i X => (plsT L i).Nodup ∧ mapAt X (w.heap.size + 1 + 1) (plsT L i) ∧ KeepO anyO V X ∧ X.frozen? ⟨w.heap.size + 1, 0, none⟩ = false ∧ Below w.heap.size w X) (fun c X => c = .ret ∧ true = R ∧ X.cell? ⟨w.heap.size + 1, 0, none⟩ = some (.bool true) ∧ Below w.heap.size w X)
  (fun i X X' row hs hg hr => ⟨hs.1, (hg.block _ (mapAt_lt hs.2.1) (fun e => by have := (hr _ e.symm).1; omega)).trans hs.2.1, hs.2.2.1.grown hg (fun r e => (hr r e).2), (frozen_kept (hs.2.2.1.cell names_any V3) hg (fun r e => (hr r e).2)).trans hs.2.2.2.1, own_low hs.2.2.2.2 nR (by omega) hg hr⟩)
  (fun c X X' row hs hg hr => ⟨hs.1, hs.2.1, cell_kept hs.2.2.1 hg (fun r e => (hr r e).2), own_low hs.2.2.2 nR (by omega) hg hr⟩)
  ⟨List.nodup_nil, V2, KeepO.refl _ _, V4, V8⟩
  (fun i a' X => ∃ B, a' = { tmps := #[.agg #[.int .i64 lim, .slice m1 m2 m3, .slice ra n rc], .pointer (some ⟨w.heap.size, 0, none⟩), .pointer (some ⟨w.heap.size + 1, 0, none⟩), .pointer (some ⟨w.heap.size + 1 + 1 + 1, 0, none⟩), .pointer (some ⟨B, 0, none⟩), .map (some (w.heap.size + 1 + 1)), .agg #[.int .i64 lim, .slice m1 m2 m3, .slice ra n rc], .func (.func 161) #[] #[.pointer (some ⟨w.heap.size + 1 + 1 + 1 + 1, 0, none⟩)], (E.getD i default).val, undef, undef, undef, undef, undef, undef, undef, undef, undef, undef, undef, undef], defers := [] } ∧ X.cell? ⟨B, 0, none⟩ = some (.string (E.getD i default).key) ∧ X.cell? ⟨B, 1, none⟩ = some (.int .i64 (E.getD i default).time) ∧ X.cell? ⟨B, 2, none⟩ = some (.int .i64 (E.getD i default).seq) ∧ X.cell? ⟨B, 3, none⟩ = some (hdV (E.getD i default).row) ∧ X.cell? ⟨B, 4, none⟩ = some (.bool (E.getD i default).met))
  (fun i a' u X X' row hs hg hr => by
   obtain ⟨B, h1, h2, h3, h4, h5, h6⟩ := hs
   exact ⟨B, h1, cell_kept h2 hg (fun r e => (hr r e).2), cell_kept h3 hg (fun r e => (hr r e).2), cell_kept h4 hg (fun r e => (hr r e).2), cell_kept h5 hg (fun r e => (hr r e).2), cell_kept h6 hg (fun r e => (hr r e).2)⟩) ?assign ?body ?done ?stop
 case assign =>
  intro l' k x X K hx hi hK
  obtain ⟨hk, hxe⟩ := List.getElem?_eq_some_iff.1 hx
  rw [List.length_map] at hk
  rw [List.getElem_map] at hxe
  subst hxe
  have hd : E.getD k default = E[k] := by rw [List.getD_eq_getElem?_getD, List.getElem?_eq_getElem hk]; rfl
  have hK2 := hK
  rw [hd] at hK2
  clear hK hd hx
  obtain ⟨⟨ek, et, es, ⟨r1, r2, r3⟩, em⟩, hz⟩ : ∃ z, E[k] = z := ⟨_, rfl⟩
  rw [hz] at hK2 ⊢
  unfold EM.val hdV at hK2 ⊢
  dsimp only at hK2 ⊢
  obtain ⟨j1, j0, j2, j3, j4⟩ := hi
  gi_wp2
  have lX : w.heap.size + 1 < X.heap.size := World.block_lt_of_cell? _ _ (j2.cell names_any V3)
  have lM := mapAt_lt j0
  exact hK2 _ _ ((KeepsOthers.alloc _ _).from _) (KeepO.alloc _ _) ⟨j1, mapAt_below j0 (bR.alloc nR _) lM, j2.trans (KeepO.alloc _ _), by go_simp, j4.alloc j4.size _⟩ ⟨X.heap.size, rfl, by go_simp, by go_simp, by go_simp, by go_simp, by go_simp⟩
 case body =>
  intro l' i x a' X hx hl' hrec hIi hax
  obtain ⟨j1, j0, j2, j3, j4⟩ := hIi
  obtain ⟨B, hax, b0, b1, b2, b3, b4⟩ := hax
  subst hax
  obtain ⟨hi, _⟩ := List.getElem?_eq_some_iff.1 hx
  rw [List.length_map] at hi
  have hEL := HER.out.1
  have hil : i < L.length := by omega
  have her := HER.out.2 i hil
  have KP : Hid (∀ w1, Calls Tryz.prog 186 #[(E.getD i default).val] w1 fun r w' => r = .returned (.agg #[.string (E.getD i default).key, .int .i64 (E.getD i default).time, .int .i64 (E.getD i default).seq]) ∧ Below w1.heap.size w1 w') := fun w1 => placeOf_any _ w1
  have hpl : plOf (L.getD i default) = ((E.getD i default).key, (E.getD i default).time, (E.getD i default).seq) := by unfold plOf; rw [her.key, her.time, her.seq]
  have hwp : wfP (plOf (L.getD i default)) := HW.out _ (by rw [List.getD_eq_getElem?_getD, List.getElem?_eq_getElem hil]; simp)
  obtain ⟨⟨ek, et, es, ⟨r1, r2, r3⟩, em⟩, hz⟩ : ∃ z, E.getD i default = z := ⟨_, rfl⟩
  rw [hz] at KP b0 b1 b2 b3 b4 hpl ⊢
  unfold EM.val hdV at KP
  unfold hdV at b3
  dsimp only at KP b0 b1 b2 b3 b4 hpl
  rw [hpl] at hwp
  have c0 := j2.cell names_any V0
  have c3 := j2.cell names_any V3
  have lX : w.heap.size + 1 < X.heap.size := World.block_lt_of_cell? _ _ c3
  have lM := mapAt_lt j0
  have hmx : Tryz.prog.follows .mixedOrders = true := by kernel_rfl
  have hw1 : IntKind.i64.wrap 1 = 1 := by rw [IntKind.wrap_i64]; omega
  have hw2 : IntKind.i64.wrap 2 = 2 := by rw [IntKind.wrap_i64]; omega
  have HPL : Hid (plOf (L.getD i default) = (ek, et, es)) := hpl
  have HJ : Hid ((plsT L i).Nodup ∧ KeepO anyO V X ∧ i < L.length) := ⟨j1, j2, hil⟩
  clear hz her hEL hx hpl
  by_cases hm : (ek, et, es) ∈ plsT L i
  ·have HO : Hid (∀ W, mapAt W (w.heap.size + 1 + 1) (plsT L i) → ∃ (b : Nat) (W3 W4 : World),
    (Instr.lookup 230 (.map (some (w.heap.size + 1 + 1))) (.agg #[.string ek, .int .i64 et, .int .i64 es]) false).run Tryz.prog W = .ok (.int .i64 1) W ∧
    (Instr.mapEntry 230 (.map (some (w.heap.size + 1 + 1))) (.agg #[.string ek, .int .i64 et, .int .i64 es])).run Tryz.prog W = .ok (.tuple #[.int .i64 1, .int .i64 b]) W3 ∧
    (Instr.lookup 230 (.map (some (w.heap.size + 1 + 1))) (.agg #[.string ek, .int .i64 et, .int .i64 es]) false).run Tryz.prog W3 = .ok (.int .i64 1) W3 ∧
    (Instr.entryStore 230 (.map (some (w.heap.size + 1 + 1))) (.int .i64 b) (.int .i64 2)).run Tryz.prog W3 = .ok () W4 ∧
    (∀ W5 : World, W5.heap[w.heap.size + 1 + 1]? = W4.heap[w.heap.size + 1 + 1]? → (Instr.lookup 230 (.map (some (w.heap.size + 1 + 1))) (.agg #[.string ek, .int .i64 et, .int .i64 es]) false).run Tryz.prog W5 = .ok (.int .i64 2) W5) ∧ W.grownBy W4 (some (w.heap.size + 1 + 1))) := fun W hW => by
    have h := map_old hW hwp hm
    unfold plcV at h
    exact h
   have HE : Hid (true = R) := by
    show _ = _
    rw [← HRR.out, dup_at HJ.out.2.2 (by rw [HPL.out]; exact hm)]; rfl
   gi_wp2
   refine wpIn_mono (Q := fun e a' W' => ∃ (bo : Nat) (w2 : World), e = .normal ∧ a' = { tmps := #[.agg #[.int .i64 lim, .slice m1 m2 m3, .slice ra n rc], .pointer (some ⟨w.heap.size, 0, none⟩), .pointer (some ⟨w.heap.size + 1, 0, none⟩), .pointer (some ⟨w.heap.size + 1 + 1 + 1, 0, none⟩), .pointer (some ⟨B, 0, none⟩), .map (some (w.heap.size + 1 + 1)), .agg #[.int .i64 lim, .slice m1 m2 m3, .slice ra n rc], .func (.func 161) #[] #[.pointer (some ⟨w.heap.size + 1 + 1 + 1 + 1, 0, none⟩)], EM.val ⟨ek, et, es, (r1, r2, r3), em⟩, .map (some (w.heap.size + 1 + 1)), .agg #[.string ek, .int .i64 et, .int .i64 es, .slice r1 r2 r3, .bool em], .agg #[.string ek, .int .i64 et, .int .i64 es], .int .i64 1, .int .i64 2, .tuple #[.int .i64 1, .int .i64 (bo : Nat)], .int .i64 (bo : Nat), undef, undef, undef, undef, undef], defers := [] } ∧ Below X.heap.size X w2 ∧ mapAt w2 (w.heap.size + 1 + 1) (plsT L i) ∧ (∀ W5 : World, W5.heap[w.heap.size + 1 + 1]? = W'.heap[w.heap.size + 1 + 1]? → (Instr.lookup 230 (.map (some (w.heap.size + 1 + 1))) (.agg #[.string ek, .int .i64 et, .int .i64 es]) false).run Tryz.prog W5 = .ok (.int .i64 2) W5) ∧ w2.grownBy W' (some (w.heap.size + 1 + 1))) ?_ ?_
   ·gi_region_with_o (refine ⟨trivial, rfl, ?_⟩; gi_at_call 186; refine (CallsIn.inRound l' (callsIn_wide.2 (KP.out _))).mono ?_; rintro e w2 ⟨rfl, hb2⟩; have hb3 : Below X.heap.size X w2 := bR.drew.trans hb2; have k0 := cLz hb3 c0; have m2' : mapAt w2 (w.heap.size + 1 + 1) (plsT L i) := mapAt_below j0 hb3 lM; obtain ⟨bo, W3, W4, o1, o2, o3, o4, o5, o6⟩ := HO.out w2 m2')
    all_goals exact ⟨bo, w2, rfl, rfl, hb3, m2', o5, o6⟩
   ·rintro e a' W4 ⟨bo, w2, rfl, rfl, hb3, m2', o5, o6⟩
    have d0 := cell_grown m2' o6 (cLz hb3 c0)
    have d3 := cell_grown m2' o6 (cLz hb3 c3)
    have df := froz_grown m2' o6 (cLz hb3 c3) (by rw [hb3.frozen (p := ⟨w.heap.size + 1, 0, none⟩) lX]; exact j3)
    have e0 := cell_grown m2' o6 (cLz hb3 b0)
    have e1 := cell_grown m2' o6 (cLz hb3 b1)
    have e2 := cell_grown m2' o6 (cLz hb3 b2)
    have e3 := cell_grown m2' o6 (cLz hb3 b3)
    have e4 := cell_grown m2' o6 (cLz hb3 b4)
    have kx : KeepsFrom V.heap.size X W4 := (kf_below hb3).trans (kf_grown o6 (by omega))
    have hbx : Below w.heap.size w W4 := (j4.trans (hb3.mono j4.size)).grown o6 (by have := hb3.size; omega) (fun r e => by cases e; omega)
    have l4 : w.heap.size + 1 + 1 < W4.heap.size := by have := hb3.size; have := o6.size; omega
    clear j0 m2' o6 hb3 HO c0 c3 b0 b1 b2 b3 b4
    gi_wp2
    gi_region_with_o (refine ⟨trivial, rfl, ?_⟩; gi_at_call 186; refine (CallsIn.inRound l' (callsIn_wide.2 (KP.out _))).mono ?_; rintro e w5 ⟨rfl, hb5⟩; have hb6 : Below W4.heap.size W4 w5 := bR.drew.trans hb5; have k0 := cLz hb6 d0; have k3 := cLz hb6 d3; have kf : w5.frozen? ⟨w.heap.size + 1, 0, none⟩ = false := (by rw [hb6.frozen (p := ⟨w.heap.size + 1, 0, none⟩) (by dsimp only; omega)]; exact df); have lk := o5 w5 (hb6.block _ l4))
    all_goals
     gi_wp2
     exact ⟨(kx.trans (kf_below hb6)).trans ((KeepsOthers.setCell _ _ _).from _), rfl, HE.out, World.cell?_setCell_same _ _ _ k3, (hbx.trans (hb6.mono hbx.size)).setCell (by dsimp only; omega) _⟩
  ·have HO : Hid (∀ W, mapAt W (w.heap.size + 1 + 1) (plsT L i) → ∃ W3 W4,
    (Instr.lookup 230 (.map (some (w.heap.size + 1 + 1))) (.agg #[.string ek, .int .i64 et, .int .i64 es]) false).run Tryz.prog W = .ok (.int .i64 0) W ∧
    (Instr.mapEntry 230 (.map (some (w.heap.size + 1 + 1))) (.agg #[.string ek, .int .i64 et, .int .i64 es])).run Tryz.prog W = .ok (.tuple #[.int .i64 0, .int .i64 (plsT L i).length]) W3 ∧
    (Instr.lookup 230 (.map (some (w.heap.size + 1 + 1))) (.agg #[.string ek, .int .i64 et, .int .i64 es]) false).run Tryz.prog W3 = .ok (.int .i64 0) W3 ∧
    (Instr.entryStore 230 (.map (some (w.heap.size + 1 + 1))) (.int .i64 (plsT L i).length) (.int .i64 1)).run Tryz.prog W3 = .ok () W4 ∧
    mapAt W4 (w.heap.size + 1 + 1) (plsT L i ++ [(ek, et, es)]) ∧ W.grownBy W4 (some (w.heap.size + 1 + 1))) := fun W hW => by
    have h := map_new hW hwp hm
    unfold plcV at h
    exact h
   have HLK : Hid (∀ W, mapAt W (w.heap.size + 1 + 1) (plsT L i ++ [(ek, et, es)]) → (Instr.lookup 230 (.map (some (w.heap.size + 1 + 1))) (.agg #[.string ek, .int .i64 et, .int .i64 es]) false).run Tryz.prog W = .ok (.int .i64 1) W) := fun W hW => by
    have h := look_new hW hwp hm
    unfold plcV at h
    exact h
   have HS : Hid (plsT L (i + 1) = plsT L i ++ [(ek, et, es)] ∧ (plsT L (i + 1)).Nodup) := ⟨by rw [plsT_succ HJ.out.2.2, HPL.out], nodup_snoc HJ.out.2.2 HJ.out.1 (by rw [HPL.out]; exact hm)⟩
   obtain ⟨pn, hpn⟩ : ∃ z, (plsT L i).length = z := ⟨_, rfl⟩
   rw [hpn] at HO
   clear hpn
   gi_wp2
   refine wpIn_mono (Q := fun e a' W' => ∃ (w2 : World), e = .normal ∧ a' = { tmps := #[.agg #[.int .i64 lim, .slice m1 m2 m3, .slice ra n rc], .pointer (some ⟨w.heap.size, 0, none⟩), .pointer (some ⟨w.heap.size + 1, 0, none⟩), .pointer (some ⟨w.heap.size + 1 + 1 + 1, 0, none⟩), .pointer (some ⟨B, 0, none⟩), .map (some (w.heap.size + 1 + 1)), .agg #[.int .i64 lim, .slice m1 m2 m3, .slice ra n rc], .func (.func 161) #[] #[.pointer (some ⟨w.heap.size + 1 + 1 + 1 + 1, 0, none⟩)], EM.val ⟨ek, et, es, (r1, r2, r3), em⟩, .map (some (w.heap.size + 1 + 1)), .agg #[.string ek, .int .i64 et, .int .i64 es, .slice r1 r2 r3, .bool em], .agg #[.string ek, .int .i64 et, .int .i64 es], .int .i64 0, .int .i64 1, .tuple #[.int .i64 0, .int .i64 (pn : Nat)], .int .i64 (pn : Nat), undef, undef, undef, undef, undef], defers := [] } ∧ Below X.heap.size X w2 ∧ mapAt w2 (w.heap.size + 1 + 1) (plsT L i) ∧ mapAt W' (w.heap.size + 1 + 1) (plsT L i ++ [(ek, et, es)]) ∧ w2.grownBy W' (some (w.heap.size + 1 + 1))) ?_ ?_
   ·gi_region_with_o (refine ⟨trivial, rfl, ?_⟩; gi_at_call 186; refine (CallsIn.inRound l' (callsIn_wide.2 (KP.out _))).mono ?_; rintro e w2 ⟨rfl, hb2⟩; have hb3 : Below X.heap.size X w2 := bR.drew.trans hb2; have k0 := cLz hb3 c0; have m2' : mapAt w2 (w.heap.size + 1 + 1) (plsT L i) := mapAt_below j0 hb3 lM; obtain ⟨W3, W4, o1, o2, o3, o4, o5, o6⟩ := HO.out w2 m2')
    all_goals exact ⟨w2, rfl, rfl, hb3, m2', o5, o6⟩
   ·rintro e a' W4 ⟨w2, rfl, rfl, hb3, m2', o5, o6⟩
    have d0 := cell_grown m2' o6 (cLz hb3 c0)
    have d3 := cell_grown m2' o6 (cLz hb3 c3)
    have df := froz_grown m2' o6 (cLz hb3 c3) (by rw [hb3.frozen (p := ⟨w.heap.size + 1, 0, none⟩) lX]; exact j3)
    have e0 := cell_grown m2' o6 (cLz hb3 b0)
    have e1 := cell_grown m2' o6 (cLz hb3 b1)
    have e2 := cell_grown m2' o6 (cLz hb3 b2)
    have e3 := cell_grown m2' o6 (cLz hb3 b3)
    have e4 := cell_grown m2' o6 (cLz hb3 b4)
    have kx : KeepsFrom V.heap.size X W4 := (kf_below hb3).trans (kf_grown o6 (by omega))
    have ko : KeepO anyO X W4 := (keep_any hb3 nR).trans (ko_grown m2' o6)
    have hbx : Below w.heap.size w W4 := (j4.trans (hb3.mono j4.size)).grown o6 (by have := hb3.size; omega) (fun r e => by cases e; omega)
    have l4 : w.heap.size + 1 + 1 < W4.heap.size := mapAt_lt o5
    clear j0 m2' o6 hb3 HO c0 c3 b0 b1 b2 b3 b4
    gi_wp2
    gi_region_with_o (refine ⟨trivial, rfl, ?_⟩; gi_at_call 186; refine (CallsIn.inRound l' (callsIn_wide.2 (KP.out _))).mono ?_; rintro e w5 ⟨rfl, hb5⟩; have hb6 : Below W4.heap.size W4 w5 := bR.drew.trans hb5; have k0 := cLz hb6 d0; have mm : mapAt w5 (w.heap.size + 1 + 1) (plsT L i ++ [(ek, et, es)]) := mapAt_below o5 hb6 l4; have lk := HLK.out w5 mm)
    all_goals
     gi_wp2
     exact ⟨kx.trans (kf_below hb6), ko.trans (keep_any hb6 nR), HS.out.2, by rw [HS.out.1]; exact mm, HJ.out.2.1.trans (ko.trans (keep_any hb6 nR)), by rw [hb6.frozen (p := ⟨w.heap.size + 1, 0, none⟩) (by dsimp only; omega)]; exact df, hbx.trans (hb6.mono hbx.size)⟩
 case done =>
  rintro D X hD ⟨j1, j0, j2, j3, j4⟩ hK
  have c3 := j2.cell names_any V3
  have HE : Hid (false = R) := by
   show _ = _
   rw [List.length_map, HER.out.1] at j1
   rw [← HRR.out, nodup_take j1]; rfl
  clear j0
  gi_wp2
  have hK2 : (X.setCell ⟨w.heap.size + 1, 0, none⟩ (.bool false)).heap[D]? = some (.deferred (some [])) := (heap_setCell_other _ _ _ _ (by dsimp only; omega)).trans hK
  refine ⟨by simp, .inl ⟨_, _, rfl, run_takeDeferred hK2, ?_⟩⟩
  have y3 := put_cell (World.cell?_setCell_same _ _ (.bool false) c3) hK2 rfl (.deferred none)
  exact ⟨.bool false, (by simp [results, Tryz.results139, go_sem, y3]), ret_bool HE.out, put_low (j4.setCell (by dsimp only; omega) _) (by omega) hK2 _⟩
 case stop =>
  rintro D c X hD ⟨rfl, hE, c3, j4⟩ hK
  gi_wp2
  refine ⟨by simp, .inl ⟨_, _, rfl, run_takeDeferred hK, ?_⟩⟩
  have y3 := put_cell c3 hK rfl (.deferred none)
  exact ⟨.bool true, (by simp [results, Tryz.results139, go_sem, y3]), ret_bool hE, put_low j4 (by omega) hK _⟩
end Go.Proofs.YtdohnkkbkfhphaaGreat.bf
