/- has: is there an entry of that place? -/
import Derived.Test.YtnfknkihiapgiaaBufMap
namespace Go.Proofs.Ytnfknkihiapgiaa.bf
open Go.ChangeShapes Go.WideShapes Go.ChangeAt Go.RowKit Go.Shelf
open vl
set_option linter.unusedVariables false
set_option linter.unusedSimpArgs false
attribute [local go_sem] Oper.semAt_some
/-- an entry's place -/
def plOf (x : Ent) : Plc := (x.key, x.time, x.seq)
theorem plOf_same {a b : Ent} : plOf a = plOf b ↔ sameP a b := by
  unfold plOf sameP
  simp [Prod.mk.injEq]
def hasB (l : List Ent) (p : Plc) : Bool := l.any fun x => decide (plOf x = p)
def anyO : Nat → Obj → Prop := fun _ _ => True
theorem names_any {W : World} {b : Nat} : names anyO W b := fun _ _ => trivial
theorem keep_any {n : Nat} {W W' : World} (h : Below n W W') (hn : W.heap.size ≤ n) : KeepO anyO W W' := fun b o h1 _ _ => (h.block b (by have := (Array.getElem?_eq_some_iff.1 h1).1; omega)).trans h1
theorem iter_all {w V : World} {b : Buf} {x : BX} (h : bufAt w b x) (hb : Below w.heap.size w V) (B : Nat) (Pr : Nat → Obj → Prop) (h0 : V.cell? ⟨B, 0, none⟩ = some (.int .i64 b.lim)) (h1 : V.cell? ⟨B, 1, none⟩ = some (hdV x.m.1)) (h2 : V.cell? ⟨B, 2, none⟩ = some (.slice x.ra x.rs.length x.rc))
    (hS : names Pr V B) (hlow : ∀ b, b < w.heap.size → names Pr V b)
    (hP1 : ∀ b c f, V.heap.size ≤ b → Pr b (.cells c 25 f)) (hP2 : ∀ b c f, V.heap.size ≤ b → Pr b (.cells c 55 f)) :
    Iter Try.prog 80 #[.pointer (some ⟨B, 0, none⟩)] ((ems (x.m :: x.rs)).map fun e => #[e.val]) (KeepO Pr) V :=
  all_iter B b.lim x.ra x.rc x.m x.rs Pr V (box_at (bufAt_below h hb) h0 h1 h2) hS (fun a ha hx => hlow _ (ra_lt h ha hx)) (fun p hp a h0 ha => by
    obtain ⟨b', o, e, y, _⟩ := h.ems p hp 0 h0
    rw [ha] at e; cases e
    exact hlow _ (World.block_lt_of_cell? _ _ y)) hP1 hP2
theorem kf_below {B : Nat} {W W' : World} (h : Below W.heap.size W W') : KeepsFrom B W W' := ⟨h.size, fun k o _ h1 _ => (h.block k (Array.getElem?_eq_some_iff.1 h1).1).trans h1⟩
theorem put_cell {W : World} {b o D : Nat} {v : Value} {x : Obj} (h : W.cell? ⟨b, o, none⟩ = some v) (hD : W.heap[D]? = some x) (hx : x.isCells = false) (o' : Obj) : (W.putObj D o').cell? ⟨b, o, none⟩ = some v :=
  cell_kept h (grownBy_putObj' W D o') (fun r e => by cases e; exact ⟨x, hD, hx⟩)
set_option maxHeartbeats 8000000 in
theorem has_any (b : Buf) (x : BX) (p : Plc) (w : World) (h : bufAt w b x) :
    Calls Try.prog 31 #[bufV b x, plcV p] w fun e w' => e = .returned (.bool (hasB (entsB b) p)) ∧ Below w.heap.size w w' := by
  have HB : Hid (bufAt w b x) := h
  have HE := bufAt_ents h
  have HER : Hid (ERs w (ems (x.m :: x.rs)) (entsB b)) := HE
  obtain ⟨L, hL⟩ : ∃ z, entsB b = z := ⟨_, rfl⟩
  rw [hL] at HER ⊢
  clear hL h HE
  obtain ⟨R, hR⟩ : ∃ z, hasB L p = z := ⟨_, rfl⟩
  have HRR : Hid (hasB L p = R) := hR
  rw [hR]
  clear hR
  obtain ⟨ra, rc, ⟨⟨m1, m2, m3⟩, ml⟩, rs⟩ := x
  obtain ⟨lim, mem, runs⟩ := b
  obtain ⟨pk, pt, ps⟩ := p
  unfold bufV hdV plcV
  dsimp only at HER ⊢
  obtain ⟨n, hn⟩ : ∃ n, rs.length = n := ⟨_, rfl⟩
  have HN : Hid (rs.length = n) := hn
  rw [hn]
  clear hn
  refine (callsIn_wide (n := 0)).1 ?_
  refine callsIn_of_wp_marks Try.func31 rfl trivial ?_ rfl
  simp only [Try.ntmps31, List.size_toArray, List.length_cons, List.length_nil, Nat.reduceAdd, Nat.reduceSub, Array.replicate_succ, Array.replicate_zero, List.push_toArray, List.append_toArray, List.nil_append, List.cons_append]
  gi_wp2_with (refine ⟨trivial, rfl, ?_⟩; gi_at_call 61; refine (callsIn_wide.2 (all_any _ _ _ rfl rfl rfl _)).mono ?_; rintro e w' ⟨rfl, rfl⟩)
  have V0 : ((((w.alloc (.cells #[.int .i64 lim, .slice m1 m2 m3, .slice ra n rc] 25)).alloc (.cells #[.string pk, .int .i64 pt, .int .i64 ps] 58)).alloc (.cells #[.bool false] 4)).alloc (.cells #[.int .i64 lim, .slice m1 m2 m3, .slice ra n rc] 25)).cell? ⟨w.heap.size + 1, 0, none⟩ = some (.string pk) := by go_simp
  have V1 : ((((w.alloc (.cells #[.int .i64 lim, .slice m1 m2 m3, .slice ra n rc] 25)).alloc (.cells #[.string pk, .int .i64 pt, .int .i64 ps] 58)).alloc (.cells #[.bool false] 4)).alloc (.cells #[.int .i64 lim, .slice m1 m2 m3, .slice ra n rc] 25)).cell? ⟨w.heap.size + 1, 1, none⟩ = some (.int .i64 pt) := by go_simp
  have V2 : ((((w.alloc (.cells #[.int .i64 lim, .slice m1 m2 m3, .slice ra n rc] 25)).alloc (.cells #[.string pk, .int .i64 pt, .int .i64 ps] 58)).alloc (.cells #[.bool false] 4)).alloc (.cells #[.int .i64 lim, .slice m1 m2 m3, .slice ra n rc] 25)).cell? ⟨w.heap.size + 1, 2, none⟩ = some (.int .i64 ps) := by go_simp
  have V3 : ((((w.alloc (.cells #[.int .i64 lim, .slice m1 m2 m3, .slice ra n rc] 25)).alloc (.cells #[.string pk, .int .i64 pt, .int .i64 ps] 58)).alloc (.cells #[.bool false] 4)).alloc (.cells #[.int .i64 lim, .slice m1 m2 m3, .slice ra n rc] 25)).cell? ⟨w.heap.size + 1 + 1, 0, none⟩ = some (.bool false) := by go_simp
  have V4 : ((((w.alloc (.cells #[.int .i64 lim, .slice m1 m2 m3, .slice ra n rc] 25)).alloc (.cells #[.string pk, .int .i64 pt, .int .i64 ps] 58)).alloc (.cells #[.bool false] 4)).alloc (.cells #[.int .i64 lim, .slice m1 m2 m3, .slice ra n rc] 25)).frozen? ⟨w.heap.size + 1 + 1, 0, none⟩ = false := by go_simp
  have V5 : ((((w.alloc (.cells #[.int .i64 lim, .slice m1 m2 m3, .slice ra n rc] 25)).alloc (.cells #[.string pk, .int .i64 pt, .int .i64 ps] 58)).alloc (.cells #[.bool false] 4)).alloc (.cells #[.int .i64 lim, .slice m1 m2 m3, .slice ra n rc] 25)).cell? ⟨w.heap.size + 1 + 1 + 1, 0, none⟩ = some (.int .i64 lim) := by go_simp
  have V6 : ((((w.alloc (.cells #[.int .i64 lim, .slice m1 m2 m3, .slice ra n rc] 25)).alloc (.cells #[.string pk, .int .i64 pt, .int .i64 ps] 58)).alloc (.cells #[.bool false] 4)).alloc (.cells #[.int .i64 lim, .slice m1 m2 m3, .slice ra n rc] 25)).cell? ⟨w.heap.size + 1 + 1 + 1, 1, none⟩ = some (.slice m1 m2 m3) := by go_simp
  have V7 : ((((w.alloc (.cells #[.int .i64 lim, .slice m1 m2 m3, .slice ra n rc] 25)).alloc (.cells #[.string pk, .int .i64 pt, .int .i64 ps] 58)).alloc (.cells #[.bool false] 4)).alloc (.cells #[.int .i64 lim, .slice m1 m2 m3, .slice ra n rc] 25)).cell? ⟨w.heap.size + 1 + 1 + 1, 2, none⟩ = some (.slice ra n rc) := by go_simp
  have V8 : Below w.heap.size w ((((w.alloc (.cells #[.int .i64 lim, .slice m1 m2 m3, .slice ra n rc] 25)).alloc (.cells #[.string pk, .int .i64 pt, .int .i64 ps] 58)).alloc (.cells #[.bool false] 4)).alloc (.cells #[.int .i64 lim, .slice m1 m2 m3, .slice ra n rc] 25)) := by
    repeat (first | exact Below.refl _ _ | (refine Below.alloc ?_ (by simp <;> omega) _))
  have V9 : ((((w.alloc (.cells #[.int .i64 lim, .slice m1 m2 m3, .slice ra n rc] 25)).alloc (.cells #[.string pk, .int .i64 pt, .int .i64 ps] 58)).alloc (.cells #[.bool false] 4)).alloc (.cells #[.int .i64 lim, .slice m1 m2 m3, .slice ra n rc] 25)).heap.size = w.heap.size + 1 + 1 + 1 + 1 := by simp
  generalize ((((w.alloc (.cells #[.int .i64 lim, .slice m1 m2 m3, .slice ra n rc] 25)).alloc (.cells #[.string pk, .int .i64 pt, .int .i64 ps] 58)).alloc (.cells #[.bool false] 4)).alloc (.cells #[.int .i64 lim, .slice m1 m2 m3, .slice ra n rc] 25)) = V at *
  have hit := iter_all HB.out V8 (w.heap.size + 1 + 1 + 1) anyO V5 V6 (by rw [HN.out]; exact V7) names_any (fun _ _ => names_any) (fun _ _ _ _ => trivial) (fun _ _ _ _ => trivial)
  dsimp only at hit
  obtain ⟨E, hE⟩ : ∃ z, ems ((((m1, m2, m3) : Hdr), ml) :: rs) = z := ⟨_, rfl⟩
  rw [hE] at hit HER
  clear hE
  refine range_law (gf := 80) (lb := #[.pointer (some ⟨w.heap.size + 1 + 1 + 1, 0, none⟩)]) rfl (enters_of Try.func80 (by kernel_rfl) rfl) hit (Below.refl _ _) (fun x hx => by obtain ⟨p, _, rfl⟩ := List.mem_map.1 hx; rfl) (fun h k => KeepO.trans h k) (fun W l o o' _ h ho => KeepO.put W l o o' h ho)
    (fun i X => (∀ j, j < i → plOf (L.getD j default) ≠ (pk, pt, ps)) ∧ KeepO anyO V X ∧ X.frozen? ⟨w.heap.size + 1 + 1, 0, none⟩ = false ∧ Below w.heap.size w X) (fun c X => c = .ret ∧ true = R ∧ X.cell? ⟨w.heap.size + 1 + 1, 0, none⟩ = some (.bool true) ∧ Below w.heap.size w X)
    (fun i X X' row hs hg hr => ⟨hs.1, hs.2.1.grown hg (fun r e => (hr r e).2), (frozen_kept (hs.2.1.cell names_any V3) hg (fun r e => (hr r e).2)).trans hs.2.2.1, own_low hs.2.2.2 (Nat.le_refl _) (by omega) hg hr⟩)
    (fun c X X' row hs hg hr => ⟨hs.1, hs.2.1, cell_kept hs.2.2.1 hg (fun r e => (hr r e).2), own_low hs.2.2.2 (Nat.le_refl _) (by omega) hg hr⟩)
    ⟨fun j hj => absurd hj (Nat.not_lt_zero j), KeepO.refl _ _, V4, V8⟩
    (fun i a' X => ∃ B, a' = { tmps := #[.agg #[.int .i64 lim, .slice m1 m2 m3, .slice ra n rc], .agg #[.string pk, .int .i64 pt, .int .i64 ps], .pointer (some ⟨w.heap.size, 0, none⟩), .pointer (some ⟨w.heap.size + 1, 0, none⟩), .pointer (some ⟨w.heap.size + 1 + 1, 0, none⟩), .pointer (some ⟨B, 0, none⟩), .agg #[.int .i64 lim, .slice m1 m2 m3, .slice ra n rc], .func (.func 80) #[] #[.pointer (some ⟨w.heap.size + 1 + 1 + 1, 0, none⟩)], (E.getD i default).val, undef, undef, undef, undef], defers := [] } ∧ X.cell? ⟨B, 0, none⟩ = some (.string (E.getD i default).key) ∧ X.cell? ⟨B, 1, none⟩ = some (.int .i64 (E.getD i default).time) ∧ X.cell? ⟨B, 2, none⟩ = some (.int .i64 (E.getD i default).seq) ∧ X.cell? ⟨B, 3, none⟩ = some (hdV (E.getD i default).row) ∧ X.cell? ⟨B, 4, none⟩ = some (.bool (E.getD i default).met))
    (fun i a' u X X' row hs hg hr => by
      obtain ⟨B, h1, h2, h3, h4, h5, h6⟩ := hs
      exact ⟨B, h1, cell_kept h2 hg (fun r e => (hr r e).2), cell_kept h3 hg (fun r e => (hr r e).2), cell_kept h4 hg (fun r e => (hr r e).2), cell_kept h5 hg (fun r e => (hr r e).2), cell_kept h6 hg (fun r e => (hr r e).2)⟩) ?assign ?body ?done ?stop
  case assign =>
    intro l' k x X K hx hi hK
    obtain ⟨hk, hxe⟩ := List.getElem?_eq_some_iff.1 hx
    rw [List.length_map] at hk
    rw [List.getElem_map] at hxe
    subst hxe
    have hd : E.getD k default = E[k] := by rw [List.getD_eq_getElem?_getD, List.getElem?_eq_getElem hk]; rfl
    have hK2 := hK
    rw [hd] at hK2
    clear hK hd hx
    obtain ⟨⟨ek, et, es, ⟨r1, r2, r3⟩, em⟩, hz⟩ : ∃ z, E[k] = z := ⟨_, rfl⟩
    rw [hz] at hK2 ⊢
    unfold EM.val hdV at hK2 ⊢
    dsimp only at hK2 ⊢
    obtain ⟨j1, j2, j3, j4⟩ := hi
    gi_wp2
    have lX : w.heap.size + 1 + 1 < X.heap.size := World.block_lt_of_cell? _ _ (j2.cell names_any V3)
    exact hK2 _ _ ((KeepsOthers.alloc _ _).from _) (KeepO.alloc _ _) ⟨j1, j2.trans (KeepO.alloc _ _), by go_simp, j4.alloc j4.size _⟩ ⟨X.heap.size, rfl, by go_simp, by go_simp, by go_simp, by go_simp, by go_simp⟩
  case body =>
    intro l' i x a' X hx hl' hrec hIi hax
    obtain ⟨j1, j2, j3, j4⟩ := hIi
    obtain ⟨B, hax, b0, b1, b2, b3, b4⟩ := hax
    subst hax
    obtain ⟨hi, _⟩ := List.getElem?_eq_some_iff.1 hx
    rw [List.length_map] at hi
    have hEL := HER.out.1
    have her := HER.out.2 i (by omega)
    have KP : Hid (∀ w1, Calls Try.prog 32 #[(E.getD i default).val] w1 fun r w' => r = .returned (.agg #[.string (E.getD i default).key, .int .i64 (E.getD i default).time, .int .i64 (E.getD i default).seq]) ∧ Below w1.heap.size w1 w') := fun w1 => placeOf_any _ w1
    have hpl : plOf (L.getD i default) = ((E.getD i default).key, (E.getD i default).time, (E.getD i default).seq) := by unfold plOf; rw [her.key, her.time, her.seq]
    have HMEM : Hid (L.getD i default ∈ L) := by show _ ∈ _; rw [List.getD_eq_getElem?_getD, List.getElem?_eq_getElem (by omega)]; simp
    obtain ⟨⟨ek, et, es, ⟨r1, r2, r3⟩, em⟩, hz⟩ : ∃ z, E.getD i default = z := ⟨_, rfl⟩
    rw [hz] at KP b0 b1 b2 b3 b4 hpl ⊢
    unfold EM.val hdV at KP
    unfold hdV at b3
    dsimp only at KP b0 b1 b2 b3 b4 hpl
    have HPL : Hid (plOf (L.getD i default) = (ek, et, es)) := hpl
    have c0 := j2.cell names_any V0
    have c1 := j2.cell names_any V1
    have c2 := j2.cell names_any V2
    have c3 := j2.cell names_any V3
    have lX : w.heap.size + 1 + 1 < X.heap.size := World.block_lt_of_cell? _ _ c3
    have hmx : Try.prog.follows .mixedOrders = true := by kernel_rfl
    clear hz hpl her hEL hx
    by_cases hE : (ek, et, es) = (pk, pt, ps)
    · have HE : Hid (true = R) := by
        show _ = _
        rw [← HRR.out]
        exact (List.any_eq_true.2 ⟨_, HMEM.out, by rw [HPL.out]; simpa using hE⟩).symm
      injection hE with e1 e23
      injection e23 with e2 e3
      subst e1 e2 e3
      gi_wp2
      gi_region_with_o (refine ⟨trivial, rfl, ?_⟩; gi_at_call 32; refine (CallsIn.inRound l' (callsIn_wide.2 (KP.out _))).mono ?_; rintro e w2 ⟨rfl, hb2⟩; have k0 := cell_later hb2 c0; have k1 := cell_later hb2 c1; have k2 := cell_later hb2 c2; have k3 := cell_later hb2 c3; have kf : w2.frozen? ⟨w.heap.size + 1 + 1, 0, none⟩ = false := (by rw [hb2.frozen (p := ⟨w.heap.size + 1 + 1, 0, none⟩) lX]; exact j3); have hb3 : Below X.heap.size X w2 := (Below.refl _ _).drew.trans hb2)
      all_goals
        gi_wp2
        exact ⟨(kf_below hb3).trans ((KeepsOthers.setCell _ _ _).from _), rfl, HE.out, World.cell?_setCell_same _ _ _ k3, (j4.trans (hb3.mono j4.size)).setCell (by dsimp only; omega) _⟩
    · have hno : ((ek.toList == pk.toList) && ((et == pt) && (es == ps))) = false := by
        rw [bytes_beq]
        by_cases e1 : ek = pk
        · by_cases e2 : et = pt
          · have e3 : es ≠ ps := fun e3 => hE (by rw [e1, e2, e3])
            simp [e1, e2, e3]
          · simp [e1, e2]
        · simp [e1]
      have HNE : Hid (plOf (L.getD i default) ≠ (pk, pt, ps)) := by show _ ≠ _; rw [HPL.out]; exact hE
      by_cases t1 : ek.toList = pk.toList
      · by_cases t2 : et = pt
        · have t3 : (es == ps) = false := by
            rw [beq_eq_false_iff_ne]
            intro e3
            have e1 : ek = pk := by have := bytes_beq ek pk; rw [t1] at this; simpa using this.symm
            exact hE (by rw [e1, t2, e3])
          subst t2
          gi_wp2
          gi_region_with_o (refine ⟨trivial, rfl, ?_⟩; gi_at_call 32; refine (CallsIn.inRound l' (callsIn_wide.2 (KP.out _))).mono ?_; rintro e w2 ⟨rfl, hb2⟩; have k0 := cell_later hb2 c0; have k1 := cell_later hb2 c1; have k2 := cell_later hb2 c2; have hb3 : Below X.heap.size X w2 := (Below.refl _ _).drew.trans hb2)
          all_goals
            gi_wp2
            exact ⟨kf_below hb3, keep_any hb3 (Nat.le_refl _), fun j hj => by
              rcases Nat.lt_succ_iff_lt_or_eq.1 hj with h | h
              · exact j1 j h
              · rw [h]; exact HNE.out, j2.trans (keep_any hb3 (Nat.le_refl _)), by rw [hb3.frozen (p := ⟨w.heap.size + 1 + 1, 0, none⟩) lX]; exact j3, j4.trans (hb3.mono j4.size)⟩
        · have t2' : (et == pt) = false := by simpa using t2
          gi_wp2
          gi_region_with_o (refine ⟨trivial, rfl, ?_⟩; gi_at_call 32; refine (CallsIn.inRound l' (callsIn_wide.2 (KP.out _))).mono ?_; rintro e w2 ⟨rfl, hb2⟩; have k0 := cell_later hb2 c0; have k1 := cell_later hb2 c1; have k2 := cell_later hb2 c2; have hb3 : Below X.heap.size X w2 := (Below.refl _ _).drew.trans hb2)
          all_goals
            gi_wp2
            exact ⟨kf_below hb3, keep_any hb3 (Nat.le_refl _), fun j hj => by
              rcases Nat.lt_succ_iff_lt_or_eq.1 hj with h | h
              · exact j1 j h
              · rw [h]; exact HNE.out, j2.trans (keep_any hb3 (Nat.le_refl _)), by rw [hb3.frozen (p := ⟨w.heap.size + 1 + 1, 0, none⟩) lX]; exact j3, j4.trans (hb3.mono j4.size)⟩
      · skip
        gi_wp2
        gi_region_with_o (refine ⟨trivial, rfl, ?_⟩; gi_at_call 32; refine (CallsIn.inRound l' (callsIn_wide.2 (KP.out _))).mono ?_; rintro e w2 ⟨rfl, hb2⟩; have k0 := cell_later hb2 c0; have k1 := cell_later hb2 c1; have k2 := cell_later hb2 c2; have hb3 : Below X.heap.size X w2 := (Below.refl _ _).drew.trans hb2)
        all_goals
          gi_wp2
          exact ⟨kf_below hb3, keep_any hb3 (Nat.le_refl _), fun j hj => by
            rcases Nat.lt_succ_iff_lt_or_eq.1 hj with h | h
            · exact j1 j h
            · rw [h]; exact HNE.out, j2.trans (keep_any hb3 (Nat.le_refl _)), by rw [hb3.frozen (p := ⟨w.heap.size + 1 + 1, 0, none⟩) lX]; exact j3, j4.trans (hb3.mono j4.size)⟩
  case done =>
    rintro D X hD ⟨j1, j2, j3, j4⟩ hK
    have c3 := j2.cell names_any V3
    have HE : Hid (false = R) := by
      show _ = _
      rw [← HRR.out]
      symm
      rw [List.length_map] at j1
      refine List.any_eq_false.2 (fun x hx => ?_)
      obtain ⟨j, hj, rfl⟩ := List.getElem_of_mem hx
      have := j1 j (by rw [HER.out.1]; exact hj)
      rw [List.getD_eq_getElem?_getD, List.getElem?_eq_getElem hj] at this
      simpa using this
    gi_wp2
    have hK2 : (X.setCell ⟨w.heap.size + 1 + 1, 0, none⟩ (.bool false)).heap[D]? = some (.deferred (some [])) := (heap_setCell_other _ _ _ _ (by dsimp only; omega)).trans hK
    refine ⟨by simp, .inl ⟨_, _, rfl, run_takeDeferred hK2, ?_⟩⟩
    have y3 := put_cell (World.cell?_setCell_same _ _ (.bool false) c3) hK2 rfl (.deferred none)
    exact ⟨.bool false, (by simp [results, Try.results31, go_sem, y3]), ret_bool HE.out, put_low (j4.setCell (by dsimp only; omega) _) (by omega) hK2 _⟩
  case stop =>
    rintro D c X hD ⟨rfl, hE, c3, j4⟩ hK
    gi_wp2
    refine ⟨by simp, .inl ⟨_, _, rfl, run_takeDeferred hK, ?_⟩⟩
    have y3 := put_cell c3 hK rfl (.deferred none)
    exact ⟨.bool true, (by simp [results, Try.results31, go_sem, y3]), ret_bool hE, put_low j4 (by omega) hK _⟩
end Go.Proofs.Ytnfknkihiapgiaa.bf
