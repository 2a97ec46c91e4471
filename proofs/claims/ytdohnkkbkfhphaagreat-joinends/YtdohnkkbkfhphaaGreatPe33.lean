import Derived.Test.YtdohnkkbkfhphaaGreatPe15
import Derived.Test.YtdohnkkbkfhphaaGreatPe32
import Derived.Test.YtdohnkkbkfhphaaGreatPe25
namespace Go.Proofs.YtdohnkkbkfhphaaGreat.jn
open Go.ChangeShapes Go.WideShapes Go.ChangeAt Go.RowKit Go.Shelf
open vl bf
set_option linter.unusedVariables false
set_option linter.unusedSimpArgs false
attribute [local go_sem] Oper.semAt_some
set_option maxRecDepth 100000 in
set_option maxHeartbeats 8000000 in
theorem rowsRight_any (p : pl.Pln) (x : pl.PA) (side : Int) (b : Buf) (y : BX) (w : World) (hw : pl.wfPlan p) (hp : pl.planAt w p x) (h : bufAt w b y) (hwf : ∀ z ∈ entsB b, wfE z) :
 Calls Tryz.prog 79 #[pl.planV p x, .int .i64 side, bufV b y] w fun e w' => e = .returned (.bool (rowsB p side b)) ∧ Below w.heap.size w w' := by
 have HB : Hid (bufAt w b y) := h
 have HER : Hid (ERs w (ems (y.m :: y.rs)) (entsB b)) := bufAt_ents h
 have HK : Hid (∀ (r : List Cel) (n : Nat) (a : Option Addr) (c : Nat) (w1 : World), n = r.length → Below w.heap.size w w1 → vl.rowAt w a r → wfRow r → r.length ≤ 9223372036854775807 → Calls Tryz.prog 56 #[pl.planV p x, .int .i64 side, .slice a n c] w1 fun e w' => e = .returned (.tuple #[.string (pl.keyOfS p side r), .bool (pl.hasB p side r), .int .i64 (pl.rowErr p side r)]) ∧ Below w1.heap.size w1 w') := fun r n a c w1 hn hb h1 h2 h3 => by
  subst hn
  exact pl.keyOf_any p x side a c r w1 hw (pl.planAt_below hp hb) (vl.rowAt_below h1 hb) h2 h3
 obtain ⟨L, hL⟩ : ∃ z, entsB b = z := ⟨_, rfl⟩
 have HWF : Hid (∀ z ∈ L, wfE z) := by rw [← hL]; exact hwf
 unfold rowsB
 rw [hL] at HER ⊢
 clear hL h hwf hw hp
 obtain ⟨R, hR⟩ : ∃ z, L.all (rowB p side) = z := ⟨_, rfl⟩
 have HRR : Hid (L.all (rowB p side) = R) := hR
 rw [hR]
 clear hR
 obtain ⟨ra, rc, ⟨⟨m1, m2, m3⟩, ml⟩, rs⟩ := y
 obtain ⟨lim, mem, runs⟩ := b
 unfold bufV hdV
 unfold pl.planV at HK ⊢
 dsimp only at HER ⊢
 obtain ⟨n, hn⟩ : ∃ n, rs.length = n := ⟨_, rfl⟩
 have HN : Hid (rs.length = n) := hn
 rw [hn]
 clear hn
 refine (callsIn_wide (n := 0)).1 ?_
 refine callsIn_of_wp_marks Tryz.func79 rfl trivial ?_ rfl
 simp only [Tryz.ntmps79, List.size_toArray, List.length_cons, List.length_nil, Nat.reduceAdd, Nat.reduceSub, Array.replicate_succ, Array.replicate_zero, List.push_toArray, List.append_toArray, List.nil_append, List.cons_append]
 gi_wp2_with (refine ⟨trivial, rfl, ?_⟩; gi_at_call 113; refine (callsIn_wide.2 (all_any _ _ _ rfl rfl rfl _)).mono ?_; rintro e w' ⟨rfl, rfl⟩)
 have V0 : boxP (((((w.alloc (.cells #[.int .i64 p.kind, .int .i64 p.mode, .int .i64 p.low, .int .i64 p.high, .int .i64 p.size, .int .i64 p.limit, .slice x.l p.left.length x.lc, .slice x.r p.right.length x.rc, .slice x.lk p.lkeys.length x.lkc, .slice x.rk p.rkeys.length x.rkc, .bool p.grouped, .slice x.g p.group.length x.gc, .slice x.a p.aggs.length x.ac] 25)).alloc (.cells #[.int .i64 side] 3)).alloc (.cells #[.int .i64 lim, .slice m1 m2 m3, .slice ra n rc] 29)).alloc (.cells #[.bool false] 4)).alloc (.cells #[.int .i64 lim, .slice m1 m2 m3, .slice ra n rc] 29)) w.heap.size p x := by
  unfold boxP
  refine ⟨?_, ?_, ?_, ?_, ?_, ?_, ?_, ?_, ?_, ?_, ?_, ?_, ?_⟩ <;> go_simp
 have V2 : (((((w.alloc (.cells #[.int .i64 p.kind, .int .i64 p.mode, .int .i64 p.low, .int .i64 p.high, .int .i64 p.size, .int .i64 p.limit, .slice x.l p.left.length x.lc, .slice x.r p.right.length x.rc, .slice x.lk p.lkeys.length x.lkc, .slice x.rk p.rkeys.length x.rkc, .bool p.grouped, .slice x.g p.group.length x.gc, .slice x.a p.aggs.length x.ac] 25)).alloc (.cells #[.int .i64 side] 3)).alloc (.cells #[.int .i64 lim, .slice m1 m2 m3, .slice ra n rc] 29)).alloc (.cells #[.bool false] 4)).alloc (.cells #[.int .i64 lim, .slice m1 m2 m3, .slice ra n rc] 29)).cell? ⟨w.heap.size + 1, 0, none⟩ = some (.int .i64 side) := by go_simp
 have V3 : (((((w.alloc (.cells #[.int .i64 p.kind, .int .i64 p.mode, .int .i64 p.low, .int .i64 p.high, .int .i64 p.size, .int .i64 p.limit, .slice x.l p.left.length x.lc, .slice x.r p.right.length x.rc, .slice x.lk p.lkeys.length x.lkc, .slice x.rk p.rkeys.length x.rkc, .bool p.grouped, .slice x.g p.group.length x.gc, .slice x.a p.aggs.length x.ac] 25)).alloc (.cells #[.int .i64 side] 3)).alloc (.cells #[.int .i64 lim, .slice m1 m2 m3, .slice ra n rc] 29)).alloc (.cells #[.bool false] 4)).alloc (.cells #[.int .i64 lim, .slice m1 m2 m3, .slice ra n rc] 29)).cell? ⟨w.heap.size + 1 + 1 + 1, 0, none⟩ = some (.bool false) := by go_simp
 have V4 : (((((w.alloc (.cells #[.int .i64 p.kind, .int .i64 p.mode, .int .i64 p.low, .int .i64 p.high, .int .i64 p.size, .int .i64 p.limit, .slice x.l p.left.length x.lc, .slice x.r p.right.length x.rc, .slice x.lk p.lkeys.length x.lkc, .slice x.rk p.rkeys.length x.rkc, .bool p.grouped, .slice x.g p.group.length x.gc, .slice x.a p.aggs.length x.ac] 25)).alloc (.cells #[.int .i64 side] 3)).alloc (.cells #[.int .i64 lim, .slice m1 m2 m3, .slice ra n rc] 29)).alloc (.cells #[.bool false] 4)).alloc (.cells #[.int .i64 lim, .slice m1 m2 m3, .slice ra n rc] 29)).frozen? ⟨w.heap.size + 1 + 1 + 1, 0, none⟩ = false := by go_simp
 have V5 : (((((w.alloc (.cells #[.int .i64 p.kind, .int .i64 p.mode, .int .i64 p.low, .int .i64 p.high, .int .i64 p.size, .int .i64 p.limit, .slice x.l p.left.length x.lc, .slice x.r p.right.length x.rc, .slice x.lk p.lkeys.length x.lkc, .slice x.rk p.rkeys.length x.rkc, .bool p.grouped, .slice x.g p.group.length x.gc, .slice x.a p.aggs.length x.ac] 25)).alloc (.cells #[.int .i64 side] 3)).alloc (.cells #[.int .i64 lim, .slice m1 m2 m3, .slice ra n rc] 29)).alloc (.cells #[.bool false] 4)).alloc (.cells #[.int .i64 lim, .slice m1 m2 m3, .slice ra n rc] 29)).cell? ⟨w.heap.size + 1 + 1 + 1 + 1, 0, none⟩ = some (.int .i64 lim) := by go_simp
 have V6 : (((((w.alloc (.cells #[.int .i64 p.kind, .int .i64 p.mode, .int .i64 p.low, .int .i64 p.high, .int .i64 p.size, .int .i64 p.limit, .slice x.l p.left.length x.lc, .slice x.r p.right.length x.rc, .slice x.lk p.lkeys.length x.lkc, .slice x.rk p.rkeys.length x.rkc, .bool p.grouped, .slice x.g p.group.length x.gc, .slice x.a p.aggs.length x.ac] 25)).alloc (.cells #[.int .i64 side] 3)).alloc (.cells #[.int .i64 lim, .slice m1 m2 m3, .slice ra n rc] 29)).alloc (.cells #[.bool false] 4)).alloc (.cells #[.int .i64 lim, .slice m1 m2 m3, .slice ra n rc] 29)).cell? ⟨w.heap.size + 1 + 1 + 1 + 1, 1, none⟩ = some (.slice m1 m2 m3) := by go_simp
 have V7 : (((((w.alloc (.cells #[.int .i64 p.kind, .int .i64 p.mode, .int .i64 p.low, .int .i64 p.high, .int .i64 p.size, .int .i64 p.limit, .slice x.l p.left.length x.lc, .slice x.r p.right.length x.rc, .slice x.lk p.lkeys.length x.lkc, .slice x.rk p.rkeys.length x.rkc, .bool p.grouped, .slice x.g p.group.length x.gc, .slice x.a p.aggs.length x.ac] 25)).alloc (.cells #[.int .i64 side] 3)).alloc (.cells #[.int .i64 lim, .slice m1 m2 m3, .slice ra n rc] 29)).alloc (.cells #[.bool false] 4)).alloc (.cells #[.int .i64 lim, .slice m1 m2 m3, .slice ra n rc] 29)).cell? ⟨w.heap.size + 1 + 1 + 1 + 1, 2, none⟩ = some (.slice ra n rc) := by go_simp
 have V8 : Below w.heap.size w (((((w.alloc (.cells #[.int .i64 p.kind, .int .i64 p.mode, .int .i64 p.low, .int .i64 p.high, .int .i64 p.size, .int .i64 p.limit, .slice x.l p.left.length x.lc, .slice x.r p.right.length x.rc, .slice x.lk p.lkeys.length x.lkc, .slice x.rk p.rkeys.length x.rkc, .bool p.grouped, .slice x.g p.group.length x.gc, .slice x.a p.aggs.length x.ac] 25)).alloc (.cells #[.int .i64 side] 3)).alloc (.cells #[.int .i64 lim, .slice m1 m2 m3, .slice ra n rc] 29)).alloc (.cells #[.bool false] 4)).alloc (.cells #[.int .i64 lim, .slice m1 m2 m3, .slice ra n rc] 29)) := by
  repeat (first | exact bR | (refine Below.alloc ?_ (by simp <;> omega) _))
 have V9 : (((((w.alloc (.cells #[.int .i64 p.kind, .int .i64 p.mode, .int .i64 p.low, .int .i64 p.high, .int .i64 p.size, .int .i64 p.limit, .slice x.l p.left.length x.lc, .slice x.r p.right.length x.rc, .slice x.lk p.lkeys.length x.lkc, .slice x.rk p.rkeys.length x.rkc, .bool p.grouped, .slice x.g p.group.length x.gc, .slice x.a p.aggs.length x.ac] 25)).alloc (.cells #[.int .i64 side] 3)).alloc (.cells #[.int .i64 lim, .slice m1 m2 m3, .slice ra n rc] 29)).alloc (.cells #[.bool false] 4)).alloc (.cells #[.int .i64 lim, .slice m1 m2 m3, .slice ra n rc] 29)).heap.size = w.heap.size + 1 + 1 + 1 + 1 + 1 := by simp
 generalize (((((w.alloc (.cells #[.int .i64 p.kind, .int .i64 p.mode, .int .i64 p.low, .int .i64 p.high, .int .i64 p.size, .int .i64 p.limit, .slice x.l p.left.length x.lc, .slice x.r p.right.length x.rc, .slice x.lk p.lkeys.length x.lkc, .slice x.rk p.rkeys.length x.rkc, .bool p.grouped, .slice x.g p.group.length x.gc, .slice x.a p.aggs.length x.ac] 25)).alloc (.cells #[.int .i64 side] 3)).alloc (.cells #[.int .i64 lim, .slice m1 m2 m3, .slice ra n rc] 29)).alloc (.cells #[.bool false] 4)).alloc (.cells #[.int .i64 lim, .slice m1 m2 m3, .slice ra n rc] 29)) = V at *
 have hit := iter_all HB.out V8 (w.heap.size + 1 + 1 + 1 + 1) anyO V5 V6 (by rw [HN.out]; exact V7) names_any (fun _ _ => names_any) (fun _ _ _ _ => trivial) (fun _ _ _ _ => trivial)
 dsimp only at hit
 obtain ⟨E, hE⟩ : ∃ z, ems ((((m1, m2, m3) : Hdr), ml) :: rs) = z := ⟨_, rfl⟩
 rw [hE] at hit HER
 clear hE
 refine range_law (gf := 161) (lb := #[.pointer (some ⟨w.heap.size + 1 + 1 + 1 + 1, 0, none⟩)]) rfl (enters_of Tryz.func161 (by kernel_rfl) rfl) hit bR (fun x hx => by obtain ⟨p, _, rfl⟩ := List.mem_map.1 hx; rfl) (fun h k => KeepO.trans h k) (fun W l o o' _ h ho => KeepO.put W l o o' h ho)
  (fun i X => (∀ j, j < i → rowB p side (L.getD j default) = true) ∧ KeepO anyO V X ∧ X.frozen? ⟨w.heap.size + 1 + 1 + 1, 0, none⟩ = false ∧ Below w.heap.size w X) (fun c X => c = .ret ∧ false = R ∧ X.cell? ⟨w.heap.size + 1 + 1 + 1, 0, none⟩ = some (.bool false) ∧ Below w.heap.size w X)
  (fun i X X' row hs hg hr => ⟨hs.1, hs.2.1.grown hg (fun r e => (hr r e).2), (frozen_kept (hs.2.1.cell names_any V3) hg (fun r e => (hr r e).2)).trans hs.2.2.1, own_low hs.2.2.2 nR (by omega) hg hr⟩)
  (fun c X X' row hs hg hr => ⟨hs.1, hs.2.1, cell_kept hs.2.2.1 hg (fun r e => (hr r e).2), own_low hs.2.2.2 nR (by omega) hg hr⟩)
  ⟨fun j hj => absurd hj (Nat.not_lt_zero j), KeepO.refl _ _, V4, V8⟩
  (fun i a' X => ∃ B, a' = { tmps := #[.agg #[.int .i64 p.kind, .int .i64 p.mode, .int .i64 p.low, .int .i64 p.high, .int .i64 p.size, .int .i64 p.limit, .slice x.l p.left.length x.lc, .slice x.r p.right.length x.rc, .slice x.lk p.lkeys.length x.lkc, .slice x.rk p.rkeys.length x.rkc, .bool p.grouped, .slice x.g p.group.length x.gc, .slice x.a p.aggs.length x.ac], .int .i64 side, .agg #[.int .i64 lim, .slice m1 m2 m3, .slice ra n rc], .pointer (some ⟨w.heap.size, 0, none⟩), .pointer (some ⟨w.heap.size + 1, 0, none⟩), .pointer (some ⟨w.heap.size + 1 + 1, 0, none⟩), .pointer (some ⟨w.heap.size + 1 + 1 + 1, 0, none⟩), .pointer (some ⟨B, 0, none⟩), undef, undef, undef, .agg #[.int .i64 lim, .slice m1 m2 m3, .slice ra n rc], .func (.func 161) #[] #[.pointer (some ⟨w.heap.size + 1 + 1 + 1 + 1, 0, none⟩)], (E.getD i default).val, undef, undef, undef, undef, undef, undef, undef, undef, undef, undef, undef, undef, undef, undef, undef, undef, undef, undef, undef, undef, undef], defers := [] } ∧ X.cell? ⟨B, 0, none⟩ = some (.string (E.getD i default).key) ∧ X.cell? ⟨B, 1, none⟩ = some (.int .i64 (E.getD i default).time) ∧ X.cell? ⟨B, 2, none⟩ = some (.int .i64 (E.getD i default).seq) ∧ X.cell? ⟨B, 3, none⟩ = some (hdV (E.getD i default).row) ∧ X.cell? ⟨B, 4, none⟩ = some (.bool (E.getD i default).met))
  (fun i a' u X X' row hs hg hr => by
   obtain ⟨B, h1, h2, h3, h4, h5, h6⟩ := hs
   exact ⟨B, h1, cell_kept h2 hg (fun r e => (hr r e).2), cell_kept h3 hg (fun r e => (hr r e).2), cell_kept h4 hg (fun r e => (hr r e).2), cell_kept h5 hg (fun r e => (hr r e).2), cell_kept h6 hg (fun r e => (hr r e).2)⟩) ?assign ?body ?done ?stop
 case assign =>
  intro l' k z X K hx hi hK
  obtain ⟨hk, hxe⟩ := List.getElem?_eq_some_iff.1 hx
  rw [List.length_map] at hk
  rw [List.getElem_map] at hxe
  subst hxe
  have hd : E.getD k default = E[k] := by rw [List.getD_eq_getElem?_getD, List.getElem?_eq_getElem hk]; rfl
  have hK2 := hK
  rw [hd] at hK2
  clear hK hd hx
  obtain ⟨⟨ek, et, es, ⟨r1, r2, r3⟩, em⟩, hz⟩ : ∃ z, E[k] = z := ⟨_, rfl⟩
  rw [hz] at hK2 ⊢
  unfold EM.val hdV at hK2 ⊢
  dsimp only at hK2 ⊢
  obtain ⟨j1, j2, j3, j4⟩ := hi
  gi_wp2
  have lX : w.heap.size + 1 + 1 + 1 < X.heap.size := World.block_lt_of_cell? _ _ (j2.cell names_any V3)
  exact hK2 _ _ ((KeepsOthers.alloc _ _).from _) (KeepO.alloc _ _) ⟨j1, j2.trans (KeepO.alloc _ _), by go_simp, j4.alloc j4.size _⟩ ⟨X.heap.size, rfl, by go_simp, by go_simp, by go_simp, by go_simp, by go_simp⟩
 case body =>
  intro l' i z a' X hx hl' hrec hIi hax
  obtain ⟨j1, j2, j3, j4⟩ := hIi
  obtain ⟨B, hax, b0, b1, b2, b3, b4⟩ := hax
  subst hax
  obtain ⟨hi, _⟩ := List.getElem?_eq_some_iff.1 hx
  rw [List.length_map] at hi
  have hEL := HER.out.1
  have her := HER.out.2 i (by omega)
  have HMEM : Hid (L.getD i default ∈ L) := by show _ ∈ _; rw [List.getD_eq_getElem?_getD, List.getElem?_eq_getElem (by omega)]; simp
  have KK : Hid (∀ w1, Below w.heap.size w w1 → Calls Tryz.prog 56 #[.agg #[.int .i64 p.kind, .int .i64 p.mode, .int .i64 p.low, .int .i64 p.high, .int .i64 p.size, .int .i64 p.limit, .slice x.l p.left.length x.lc, .slice x.r p.right.length x.rc, .slice x.lk p.lkeys.length x.lkc, .slice x.rk p.rkeys.length x.rkc, .bool p.grouped, .slice x.g p.group.length x.gc, .slice x.a p.aggs.length x.ac], .int .i64 side, hdV (E.getD i default).row] w1 fun e w' => e = .returned (.tuple #[.string (pl.keyOfS p side (L.getD i default).row), .bool (pl.hasB p side (L.getD i default).row), .int .i64 (pl.rowErr p side (L.getD i default).row)]) ∧ Below w1.heap.size w1 w') := fun w1 hb => HK.out (L.getD i default).row _ _ _ w1 her.len hb her.row (HWF.out _ HMEM.out).row (HWF.out _ HMEM.out).len
  have HKY : Hid ((E.getD i default).key = (L.getD i default).key) := her.key
  obtain ⟨kb, hkb⟩ : ∃ z, pl.keyOfS p side (L.getD i default).row = z := ⟨_, rfl⟩
  obtain ⟨hb', hhb⟩ : ∃ z, pl.hasB p side (L.getD i default).row = z := ⟨_, rfl⟩
  obtain ⟨re, hre⟩ : ∃ z, pl.rowErr p side (L.getD i default).row = z := ⟨_, rfl⟩
  have HRB : Hid (rowB p side (L.getD i default) = (decide (re = 0) && hb' && decide (kb = (L.getD i default).key))) := by
   show _ = _
   unfold rowB
   rw [hkb, hhb, hre]
  rw [hkb, hhb, hre] at KK
  clear hkb hhb hre
  obtain ⟨⟨ek, et, es, ⟨r1, r2, r3⟩, em⟩, hz⟩ : ∃ z, E.getD i default = z := ⟨_, rfl⟩
  rw [hz] at KK b0 b1 b2 b3 b4 HKY ⊢
  unfold hdV at KK b3
  dsimp only at KK b0 b1 b2 b3 b4 HKY
  rw [← HKY.out] at HRB
  have c3 := j2.cell names_any V3
  have c2 := j2.cell names_any V2
  have c0 : boxP X w.heap.size p x := by
   obtain ⟨v0, v1, v2, v3, v4, v5, v6, v7, v8, v9, v10, v11, v12⟩ := V0
   exact ⟨j2.cell names_any v0, j2.cell names_any v1, j2.cell names_any v2, j2.cell names_any v3, j2.cell names_any v4, j2.cell names_any v5, j2.cell names_any v6, j2.cell names_any v7, j2.cell names_any v8, j2.cell names_any v9, j2.cell names_any v10, j2.cell names_any v11, j2.cell names_any v12⟩
  obtain ⟨v0, v1, v2, v3, v4, v5, v6, v7, v8, v9, v10, v11, v12⟩ := c0
  have lX : w.heap.size + 1 + 1 + 1 < X.heap.size := World.block_lt_of_cell? _ _ c3
  have HOUT : Hid (rowB p side (L.getD i default) = false → false = R) := fun hb => by
   rw [← HRR.out]
   symm
   rw [List.all_eq_false]
   exact ⟨_, HMEM.out, by rw [hb]; decide⟩
  clear hz her hEL hx HKY
  by_cases h1 : re = 0
  ·subst h1
   cases hb' with
   | true =>
    by_cases t1 : kb.toList = ek.toList
    ·have hY : Hid (rowB p side (L.getD i default) = true) := by
      show _ = _
      rw [HRB.out]
      have e1 : kb = ek := by have := bytes_beq kb ek; rw [t1] at this; simpa using this.symm
      simp [e1]
     gi_wp2_with (refine ⟨trivial, rfl, ?_⟩; gi_at_call 56; refine (CallsIn.inRound l' (callsIn_wide.2 (KK.out _ j4))).mono ?_; rintro e w2 ⟨rfl, hb2⟩; have k0 := cLz hb2 b0)
     exact ⟨kf_below hb2, bf.keep_any hb2 nR, fun j hj => by
      rcases Nat.lt_succ_iff_lt_or_eq.1 hj with h | h
      ·exact j1 j h
      ·rw [h]; exact hY.out, j2.trans (bf.keep_any hb2 nR), by rw [hb2.frozen (p := ⟨w.heap.size + 1 + 1 + 1, 0, none⟩) lX]; exact j3, j4.trans (hb2.mono j4.size)⟩
    ·have HE : Hid (false = R) := HOUT.out (by
      rw [HRB.out]
      have e1 : kb ≠ ek := fun e => t1 (by rw [e])
      simp [e1])
     have t2 : (kb.toList == ek.toList) = false := by simpa using t1
     have t3 : (kb.toList != ek.toList) = true := by simpa using t1
     gi_wp2_with (refine ⟨trivial, rfl, ?_⟩; gi_at_call 56; refine (CallsIn.inRound l' (callsIn_wide.2 (KK.out _ j4 ))).mono ?_; rintro e w2 ⟨rfl, hb2⟩; have k0 := cLz hb2 b0; have k3 := cLz hb2 c3; have kf : w2.frozen? ⟨w.heap.size + 1 + 1 + 1, 0, none⟩ = false := (by rw [hb2.frozen (p := ⟨w.heap.size + 1 + 1 + 1, 0, none⟩) lX]; exact j3))
     exact ⟨(kf_below hb2).trans ((KeepsOthers.setCell _ _ _).from _), rfl, HE.out, World.cell?_setCell_same _ _ _ k3, (j4.trans (hb2.mono j4.size)).setCell (by dsimp only; omega) _⟩
   | false =>
    have HE : Hid (false = R) := HOUT.out (by rw [HRB.out]; simp)
    gi_wp2_with (refine ⟨trivial, rfl, ?_⟩; gi_at_call 56; refine (CallsIn.inRound l' (callsIn_wide.2 (KK.out _ j4 ))).mono ?_; rintro e w2 ⟨rfl, hb2⟩; have k0 := cLz hb2 b0; have k3 := cLz hb2 c3; have kf : w2.frozen? ⟨w.heap.size + 1 + 1 + 1, 0, none⟩ = false := (by rw [hb2.frozen (p := ⟨w.heap.size + 1 + 1 + 1, 0, none⟩) lX]; exact j3))
    exact ⟨(kf_below hb2).trans ((KeepsOthers.setCell _ _ _).from _), rfl, HE.out, World.cell?_setCell_same _ _ _ k3, (j4.trans (hb2.mono j4.size)).setCell (by dsimp only; omega) _⟩
  ·have HE : Hid (false = R) := HOUT.out (by rw [HRB.out]; simp [h1])
   have h2 : (re != 0) = true := by simpa using h1
   gi_wp2_with (refine ⟨trivial, rfl, ?_⟩; gi_at_call 56; refine (CallsIn.inRound l' (callsIn_wide.2 (KK.out _ j4 ))).mono ?_; rintro e w2 ⟨rfl, hb2⟩; have k0 := cLz hb2 b0; have k3 := cLz hb2 c3; have kf : w2.frozen? ⟨w.heap.size + 1 + 1 + 1, 0, none⟩ = false := (by rw [hb2.frozen (p := ⟨w.heap.size + 1 + 1 + 1, 0, none⟩) lX]; exact j3))
   exact ⟨(kf_below hb2).trans ((KeepsOthers.setCell _ _ _).from _), rfl, HE.out, World.cell?_setCell_same _ _ _ k3, (j4.trans (hb2.mono j4.size)).setCell (by dsimp only; omega) _⟩
 case done =>
  rintro D X hD ⟨j1, j2, j3, j4⟩ hK
  have c3 := j2.cell names_any V3
  have HE : Hid (true = R) := by
   show _ = _
   rw [← HRR.out]
   symm
   rw [List.length_map] at j1
   refine List.all_eq_true.2 (fun z hz => ?_)
   obtain ⟨j, hj, rfl⟩ := List.getElem_of_mem hz
   have := j1 j (by rw [HER.out.1]; exact hj)
   rw [List.getD_eq_getElem?_getD, List.getElem?_eq_getElem hj] at this
   exact this
  gi_wp2
  have hK2 : (X.setCell ⟨w.heap.size + 1 + 1 + 1, 0, none⟩ (.bool true)).heap[D]? = some (.deferred (some [])) := (heap_setCell_other _ _ _ _ (by dsimp only; omega)).trans hK
  refine ⟨by simp, .inl ⟨_, _, rfl, run_takeDeferred hK2, ?_⟩⟩
  have y3 := put_cell (World.cell?_setCell_same _ _ (.bool true) c3) hK2 rfl (.deferred none)
  exact ⟨.bool true, (by simp [results, Tryz.results79, go_sem, y3]), ret_bool HE.out, put_low (j4.setCell (by dsimp only; omega) _) (by omega) hK2 _⟩
 case stop =>
  rintro D c X hD ⟨rfl, hE, c3, j4⟩ hK
  gi_wp2
  refine ⟨by simp, .inl ⟨_, _, rfl, run_takeDeferred hK, ?_⟩⟩
  have y3 := put_cell c3 hK rfl (.deferred none)
  exact ⟨.bool false, (by simp [results, Tryz.results79, go_sem, y3]), ret_bool hE, put_low j4 (by omega) hK _⟩
end Go.Proofs.YtdohnkkbkfhphaaGreat.jn
namespace Go.Proofs.YtdohnkkbkfhphaaGreat.jn
open Go.ChangeShapes Go.WideShapes Go.ChangeAt Go.RowKit
open vl
set_option linter.unusedVariables false
set_option linter.unusedSimpArgs false
attribute [local go_sem] Oper.semAt_some
set_option maxRecDepth 100000 in
set_option maxHeartbeats 4000000 in
theorem rangesRight_any (s : Jn) (y : JX) (w : World) : Calls Tryz.prog 40 #[joinV s y] w fun e w' => e = .returned (.bool (rangesB s)) ∧ Below w.heap.size w w' := by
 have K1 : Hid (∀ w1, Calls Tryz.prog 77 #[.int .i64 s.lm] w1 fun e w' => e = .returned (.bool (markB s.lm)) ∧ Below w1.heap.size w1 w') := fun w1 => markRight_any _ w1
 have K2 : Hid (∀ w1, Calls Tryz.prog 77 #[.int .i64 s.rm] w1 fun e w' => e = .returned (.bool (markB s.rm)) ∧ Below w1.heap.size w1 w') := fun w1 => markRight_any _ w1
 obtain ⟨R, hR⟩ : ∃ z, rangesB s = z := ⟨_, rfl⟩
 have HR : Hid (rangesB s = R) := hR
 rw [hR]
 clear hR
 unfold rangesB at HR
 obtain ⟨M1, h1⟩ : ∃ z, markB s.lm = z := ⟨_, rfl⟩
 obtain ⟨M2, h2⟩ : ∃ z, markB s.rm = z := ⟨_, rfl⟩
 rw [h1] at K1 HR
 rw [h2] at K2 HR
 clear h1 h2
 rw [joinV_is]
 obtain ⟨⟨lra, lrc, ⟨⟨a1, a2, a3⟩, al⟩, lrs⟩, ⟨rra, rrc, ⟨⟨b1, b2, b3⟩, bl⟩, rrs⟩⟩ := y
 obtain ⟨⟨l0, lmem, lruns⟩, ⟨r0, rmem, rruns⟩, lm, rm, sq⟩ := s
 dsimp only at *
 obtain ⟨ln, hln⟩ : ∃ n, lrs.length = n := ⟨_, rfl⟩
 obtain ⟨rn, hrn⟩ : ∃ n, rrs.length = n := ⟨_, rfl⟩
 rw [hln, hrn]
 clear hln hrn
 go_enter Tryz.func40, Tryz.ntmps40
 go_wp2_with fail
 generalize hV : (World.alloc w _) = V
 have hb0 : Below w.heap.size w V := by rw [← hV]; exact bR.alloc nR _
 have c7 : V.cell? ⟨w.heap.size, 7, none⟩ = some (.int .i64 rm) := by subst hV; go_simp
 have c8 : V.cell? ⟨w.heap.size, 8, none⟩ = some (.int .i64 sq) := by subst hV; go_simp
 clear hV
 refine (K1.out _).mono ?_
 rintro e w1 ⟨rfl, hb1⟩
 have hbw : Below w.heap.size w w1 := hb0.trans (hb1.mono hb0.size)
 have d7 := cLz hb1 c7
 have d8 := cLz hb1 c8
 clear c7 c8 hb1 hb0 K1
 cases M1 with
 | false =>
  have HE : Hid (false = R) := by show _ = _; rw [← HR.out]; rfl
  go_wp2
  go_ret
  exact ⟨ret_bool HE.out, hbw⟩
 | true =>
  go_wp2_with fail
  refine (K2.out _).mono ?_
  rintro e w2 ⟨rfl, hb2⟩
  have hbw2 : Below w.heap.size w w2 := hbw.trans (hb2.mono hbw.size)
  have e8 := cLz hb2 d8
  clear d7 d8 hb2 hbw K2
  cases M2 with
  | false =>
   have HE : Hid (false = R) := by show _ = _; rw [← HR.out]; rfl
   go_wp2
   go_ret
   exact ⟨ret_bool HE.out, hbw2⟩
  | true =>
   have HE : Hid (R = bf.betw sq 0 1099511627776) := by show _ = _; rw [← HR.out]; rfl
   by_cases h1 : 0 ≤ sq
   ·by_cases h2 : sq ≤ 1099511627776
    ·have HT : Hid (true = R) := by show _ = _; rw [HE.out]; exact ((bf.betw_iff _ _ _).2 ⟨h1, h2⟩).symm
     go_wp2
     go_ret
     exact ⟨ret_bool HT.out, hbw2⟩
    ·have HT : Hid (false = R) := by show _ = _; rw [HE.out]; exact ((bf.betw_no _ _ _).2 (fun k => h2 k.2)).symm
     go_wp2
     go_ret
     exact ⟨ret_bool (by rw [decide_eq_false (by omega)]; exact HT.out), hbw2⟩
   ·have HT : Hid (false = R) := by show _ = _; rw [HE.out]; exact ((bf.betw_no _ _ _).2 (fun k => h1 k.1)).symm
    go_wp2
    go_ret
    exact ⟨ret_bool HT.out, hbw2⟩
set_option maxRecDepth 100000 in
set_option maxHeartbeats 8000000 in
theorem formRight_any (p : pl.Pln) (x : pl.PA) (s : Jn) (y : JX) (w : World) (hw : pl.wfPlan p) (hp : pl.planAt w p x) (h : joinAt w s y) (hwf : wfJ s) (hl : (bf.entsB s.L).length ≤ 100000) (hr : (bf.entsB s.R).length ≤ 100000) :
 Calls Tryz.prog 41 #[pl.planV p x, joinV s y] w fun e w' => e = .returned (.bool (formJ p s)) ∧ Below w.heap.size w w' := by
 have KS : Hid (∀ w1, Below w.heap.size w w1 → Calls Tryz.prog 78 #[joinV s y] w1 fun e w' => e = .returned (.bool (seqsB s)) ∧ Below w1.heap.size w1 w') := fun w1 hb => seqsRight_any s y w1 (h.below hb) (fun z hz => (by
  rcases List.mem_append.1 hz with k | k
  ·exact (hwf.l.ents z k).2.seq
  ·exact (hwf.r.ents z k).2.seq)) hl hr
 have KL := hIz (fun (w1 : World) (hb : Below w.heap.size w w1) => rowsRight_any p x 1 s.L y.l w1 hw (pl.planAt_below hp hb) (bf.bufAt_below h.l hb) (fun z hz => (hwf.l.ents z hz).1))
 have KR := hIz (fun (w1 : World) (hb : Below w.heap.size w w1) => rowsRight_any p x 2 s.R y.r w1 hw (pl.planAt_below hp hb) (bf.bufAt_below h.r hb) (fun z hz => (hwf.r.ents z hz).1))
 obtain ⟨R, hR⟩ : ∃ z, formJ p s = z := ⟨_, rfl⟩
 have HR : Hid (formJ p s = R) := hR
 rw [hR]
 clear hR hw hp h hwf hl hr
 unfold formJ at HR
 obtain ⟨S, h1⟩ : ∃ z, seqsB s = z := ⟨_, rfl⟩
 obtain ⟨B1, h2⟩ : ∃ z, rowsB p 1 s.L = z := ⟨_, rfl⟩
 obtain ⟨B2, h3⟩ : ∃ z, rowsB p 2 s.R = z := ⟨_, rfl⟩
 rw [h1] at KS HR
 rw [h2] at KL HR
 rw [h3] at KR HR
 clear h1 h2 h3
 unfold pl.planV at KL KR ⊢
 rw [joinV_is] at KS ⊢
 unfold bf.bufV bf.hdV at KL KR
 go_enter Tryz.func41, Tryz.ntmps41
 by_cases e1 : s.L.lim = p.limit
 rotate_left
 ·have e1' : (s.L.lim == p.limit) = false := by simpa using e1
  have HE : Hid (false = R) := by show _ = _; rw [← HR.out, decide_eq_false e1]; rfl
  go_wp2
  go_ret
  exact ⟨ret_bool HE.out, (bR.alloc nR _).alloc (by simp) _⟩
 have e1' : (s.L.lim == p.limit) = true := by simpa using e1
 by_cases e2 : s.R.lim = p.limit
 rotate_left
 ·have e2' : (s.R.lim == p.limit) = false := by simpa using e2
  have HE : Hid (false = R) := by show _ = _; rw [← HR.out, decide_eq_false e2, decide_eq_true e1]; rfl
  go_wp2
  go_ret
  exact ⟨ret_bool HE.out, (bR.alloc nR _).alloc (by simp) _⟩
 have e2' : (s.R.lim == p.limit) = true := by simpa using e2
 rw [decide_eq_true e1, decide_eq_true e2] at HR
 clear e1 e2
 go_wp2_with fail
 generalize hV : (World.alloc (World.alloc w _) _) = V
 have hb0 : Below w.heap.size w V := by rw [← hV]; exact (bR.alloc nR _).alloc (by simp) _
 have HP : Hid (boxP V w.heap.size p x) := by
  subst hV
  exact boxP_later (boxP_new ..) (bR.alloc nR _)
 have HJ : Hid (boxJ V (w.heap.size + 1) s y) := by
  subst hV
  have := boxJ_new (w.alloc (.cells #[.int .i64 p.kind, .int .i64 p.mode, .int .i64 p.low, .int .i64 p.high, .int .i64 p.size, .int .i64 p.limit, .slice x.l p.left.length x.lc, .slice x.r p.right.length x.rc, .slice x.lk p.lkeys.length x.lkc, .slice x.rk p.rkeys.length x.rkc, .bool p.grouped, .slice x.g p.group.length x.gc, .slice x.a p.aggs.length x.ac] 25)) s y 31
  rw [World.size_alloc] at this
  exact this
 clear hV
 refine (KS.out _ hb0).mono ?_
 rintro e w1 ⟨rfl, hb1⟩
 have hbw : Below w.heap.size w w1 := hb0.trans (hb1.mono hb0.size)
 replace HP : Hid (boxP w1 w.heap.size p x) := boxP_later HP.out hb1
 replace HJ : Hid (boxJ w1 (w.heap.size + 1) s y) := boxJ_later HJ.out hb1
 clear hb1 hb0 KS
 cases S with
 | false =>
  have HE : Hid (false = R) := by show _ = _; rw [← HR.out]; rfl
  go_wp2
  go_ret
  exact ⟨ret_bool HE.out, hbw⟩
 | true =>
  obtain ⟨v0, v1, v2, v3, v4, v5, v6, v7, v8, v9, v10, v11, v12⟩ := HP.out
  obtain ⟨u0, u1, u2, u3, u4, u5, u6, u7, u8⟩ := HJ.out
  go_wp2_with fail
  refine (KL.out _ hbw).mono ?_
  rintro e w2 ⟨rfl, hb2⟩
  replace hbw : Below w.heap.size w w2 := hbw.trans (hb2.mono hbw.size)
  replace HP : Hid (boxP w2 w.heap.size p x) := boxP_later HP.out hb2
  replace HJ : Hid (boxJ w2 (w.heap.size + 1) s y) := boxJ_later HJ.out hb2
  clear v0 v1 v2 v3 v4 v5 v6 v7 v8 v9 v10 v11 v12 u0 u1 u2 u3 u4 u5 u6 u7 u8 hb2 KL
  cases B1 with
  | false =>
   have HE : Hid (false = R) := by show _ = _; rw [← HR.out]; rfl
   go_wp2
   go_ret
   exact ⟨ret_bool HE.out, hbw⟩
  | true =>
   obtain ⟨v0, v1, v2, v3, v4, v5, v6, v7, v8, v9, v10, v11, v12⟩ := HP.out
   obtain ⟨u0, u1, u2, u3, u4, u5, u6, u7, u8⟩ := HJ.out
   go_wp2_with fail
   refine (KR.out _ hbw).mono ?_
   rintro e w3 ⟨rfl, hb3⟩
   replace hbw : Below w.heap.size w w3 := hbw.trans (hb3.mono hbw.size)
   have HE : Hid (B2 = R) := by show _ = _; rw [← HR.out]; rfl
   clear v0 v1 v2 v3 v4 v5 v6 v7 v8 v9 v10 v11 v12 u0 u1 u2 u3 u4 u5 u6 u7 u8 hb3 KR
   go_wp2
   go_ret
   exact ⟨ret_bool HE.out, hbw⟩
set_option maxRecDepth 100000 in
set_option maxHeartbeats 8000000 in
theorem check_any (p : pl.Pln) (x : pl.PA) (s : Jn) (y : JX) (w : World) (hw : pl.wfPlan p) (hp : pl.planAt w p x) (h : joinAt w s y) (hwf : wfJ s) :
 Calls Tryz.prog 14 #[pl.planV p x, joinV s y] w fun e w' => e = .returned (.int .i64 (joinErr p s)) ∧ Below w.heap.size w w' := by
 have KP := hIz (fun (w1 : World) (hb : Below w.heap.size w w1) => pl.planCheck_any p x w1 hw (pl.planAt_below hp hb))
 have KL := hIz (fun (w1 : World) (hb : Below w.heap.size w w1) => bf.check_any s.L y.l w1 (bf.bufAt_below h.l hb) hwf.l.ents hwf.l.size)
 have KR := hIz (fun (w1 : World) (hb : Below w.heap.size w w1) => bf.check_any s.R y.r w1 (bf.bufAt_below h.r hb) hwf.r.ents hwf.r.size)
 have KG := hIz (fun (w1 : World) => rangesRight_any s y w1)
 have KF : Hid (bf.errB s.L = 0 → bf.errB s.R = 0 → ∀ w1, Below w.heap.size w w1 → Calls Tryz.prog 41 #[pl.planV p x, joinV s y] w1 fun e w' => e = .returned (.bool (formJ p s)) ∧ Below w1.heap.size w1 w') := fun h1 h2 w1 hb => formRight_any p x s y w1 hw (pl.planAt_below hp hb) (h.below hb) hwf (by have := (bf.okB_of h1).all; omega) (by have := (bf.okB_of h2).all; omega)
 obtain ⟨R, hR⟩ : ∃ z, joinErr p s = z := ⟨_, rfl⟩
 have HR : Hid (joinErr p s = R) := hR
 rw [hR]
 clear hR hw hp h hwf
 unfold joinErr at HR
 obtain ⟨E1, h1⟩ : ∃ z, pl.planErr p = z := ⟨_, rfl⟩
 obtain ⟨E2, h2⟩ : ∃ z, bf.errB s.L = z := ⟨_, rfl⟩
 obtain ⟨E3, h3⟩ : ∃ z, bf.errB s.R = z := ⟨_, rfl⟩
 obtain ⟨G, h4⟩ : ∃ z, rangesB s = z := ⟨_, rfl⟩
 obtain ⟨F, h5⟩ : ∃ z, formJ p s = z := ⟨_, rfl⟩
 rw [h1] at KP HR
 rw [h2] at KL KF HR
 rw [h3] at KR KF HR
 rw [h4] at KG HR
 rw [h5] at KF HR
 clear h1 h2 h3 h4 h5
 unfold pl.planV at KP KF ⊢
 rw [joinV_is] at KG KF ⊢
 unfold bf.bufV bf.hdV at KL KR
 go_enter Tryz.func14, Tryz.ntmps14
 go_wp2_with fail
 generalize hV : (World.alloc (World.alloc w _) _) = V
 have hb0 : Below w.heap.size w V := by rw [← hV]; exact (bR.alloc nR _).alloc (by simp) _
 have HP : Hid (boxP V w.heap.size p x) := by
  subst hV
  exact boxP_later (boxP_new ..) (bR.alloc nR _)
 have HJ : Hid (boxJ V (w.heap.size + 1) s y) := by
  subst hV
  have := boxJ_new (w.alloc (.cells #[.int .i64 p.kind, .int .i64 p.mode, .int .i64 p.low, .int .i64 p.high, .int .i64 p.size, .int .i64 p.limit, .slice x.l p.left.length x.lc, .slice x.r p.right.length x.rc, .slice x.lk p.lkeys.length x.lkc, .slice x.rk p.rkeys.length x.rkc, .bool p.grouped, .slice x.g p.group.length x.gc, .slice x.a p.aggs.length x.ac] 25)) s y 31
  rw [World.size_alloc] at this
  exact this
 clear hV
 refine (KP.out _ hb0).mono ?_
 rintro e w1 ⟨rfl, hb1⟩
 have hbw : Below w.heap.size w w1 := hb0.trans (hb1.mono hb0.size)
 replace HP : Hid (boxP w1 w.heap.size p x) := boxP_later HP.out hb1
 replace HJ : Hid (boxJ w1 (w.heap.size + 1) s y) := boxJ_later HJ.out hb1
 clear hb1 hb0 KP
 by_cases k1 : E1 = 0
 rotate_left
 ·have k1' : (E1 != 0) = true := by simpa using k1
  have HE : Hid (E1 = R) := by show _ = _; rw [← HR.out, if_pos k1]
  go_wp2
  go_ret
  exact ⟨ret_int HE.out, hbw⟩
 subst k1
 rw [if_neg (by decide)] at HR
 obtain ⟨u0, u1, u2, u3, u4, u5, u6, u7, u8⟩ := HJ.out
 go_wp2_with fail
 refine (KL.out _ hbw).mono ?_
 rintro e w2 ⟨rfl, hb2⟩
 replace hbw : Below w.heap.size w w2 := hbw.trans (hb2.mono hbw.size)
 replace HP : Hid (boxP w2 w.heap.size p x) := boxP_later HP.out hb2
 replace HJ : Hid (boxJ w2 (w.heap.size + 1) s y) := boxJ_later HJ.out hb2
 clear u0 u1 u2 u3 u4 u5 u6 u7 u8 hb2 KL
 by_cases k2 : E2 = 0
 rotate_left
 ·have k2' : (E2 != 0) = true := by simpa using k2
  have HE : Hid (E2 = R) := by show _ = _; rw [← HR.out, if_pos k2]
  go_wp2
  go_ret
  exact ⟨ret_int HE.out, hbw⟩
 subst k2
 rw [if_neg (by decide)] at HR
 obtain ⟨u0, u1, u2, u3, u4, u5, u6, u7, u8⟩ := HJ.out
 go_wp2_with fail
 refine (KR.out _ hbw).mono ?_
 rintro e w3 ⟨rfl, hb3⟩
 replace hbw : Below w.heap.size w w3 := hbw.trans (hb3.mono hbw.size)
 replace HP : Hid (boxP w3 w.heap.size p x) := boxP_later HP.out hb3
 replace HJ : Hid (boxJ w3 (w.heap.size + 1) s y) := boxJ_later HJ.out hb3
 clear u0 u1 u2 u3 u4 u5 u6 u7 u8 hb3 KR
 by_cases k3 : E3 = 0
 rotate_left
 ·have k3' : (E3 != 0) = true := by simpa using k3
  have HE : Hid (E3 = R) := by show _ = _; rw [← HR.out, if_pos k3]
  go_wp2
  go_ret
  exact ⟨ret_int HE.out, hbw⟩
 subst k3
 rw [if_neg (by decide)] at HR
 obtain ⟨u0, u1, u2, u3, u4, u5, u6, u7, u8⟩ := HJ.out
 go_wp2_with fail
 refine (KG.out _).mono ?_
 rintro e w4 ⟨rfl, hb4⟩
 replace hbw : Below w.heap.size w w4 := hbw.trans (hb4.mono hbw.size)
 replace HP : Hid (boxP w4 w.heap.size p x) := boxP_later HP.out hb4
 replace HJ : Hid (boxJ w4 (w.heap.size + 1) s y) := boxJ_later HJ.out hb4
 clear u0 u1 u2 u3 u4 u5 u6 u7 u8 hb4 KG
 cases G with
 | false =>
  have HE : Hid ((3 : Int) = R) := by show _ = _; rw [← HR.out, if_pos rfl]
  go_wp2
  go_ret
  exact ⟨ret_int HE.out, hbw⟩
 | true =>
  rw [if_neg (by decide)] at HR
  obtain ⟨v0, v1, v2, v3, v4, v5, v6, v7, v8, v9, v10, v11, v12⟩ := HP.out
  obtain ⟨u0, u1, u2, u3, u4, u5, u6, u7, u8⟩ := HJ.out
  go_wp2_with fail
  refine (KF.out (by trivial) (by trivial) _ hbw).mono ?_
  rintro e w5 ⟨rfl, hb5⟩
  replace hbw : Below w.heap.size w w5 := hbw.trans (hb5.mono hbw.size)
  clear v0 v1 v2 v3 v4 v5 v6 v7 v8 v9 v10 v11 v12 u0 u1 u2 u3 u4 u5 u6 u7 u8 hb5 KF
  cases F with
  | false =>
   have HE : Hid ((1 : Int) = R) := by show _ = _; rw [← HR.out, if_pos rfl]
   go_wp2
   go_ret
   exact ⟨ret_int HE.out, hbw⟩
  | true =>
   have HE : Hid ((0 : Int) = R) := by show _ = _; rw [← HR.out, if_neg (by decide)]
   go_wp2
   go_ret
   exact ⟨ret_int HE.out, hbw⟩
end Go.Proofs.YtdohnkkbkfhphaaGreat.jn
