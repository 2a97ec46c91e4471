/- Buffers in memory; Size and countsRight. -/
import Derived.Test.YtnfknkihiapgiaaBufOne
namespace Go.Proofs.Ytnfknkihiapgiaa.bf
open Go.ChangeShapes Go.WideShapes Go.ChangeAt Go.RowKit Go.Shelf
open vl
set_option linter.unusedVariables false
set_option linter.unusedSimpArgs false
attribute [local go_sem] Oper.semAt_some
/-- a buffer -/
structure Buf where
  lim : Int
  mem : List Ent
  runs : List (List Ent)
/-- where it lies -/
structure BX where
  ra : Option Addr
  rc : Nat
  m : Part
  rs : List Part
def bufV (b : Buf) (x : BX) : Value := .agg #[.int .i64 b.lim, hdV x.m.1, .slice x.ra x.rs.length x.rc]
structure bufAt (w : World) (b : Buf) (x : BX) : Prop where
  hds : hdsAt w x.ra (x.rs.map (·.1))
  len : ∀ p ∈ x.m :: x.rs, p.1.2.1 = p.2.length ∧ p.2.length ≤ 9223372036854775807
  ems : ∀ p ∈ x.m :: x.rs, emsAt w p.1.1 p.2
  few : x.rs.length ≤ 9223372036854775807
  mem : ERs w x.m.2 b.mem
  rlen : x.rs.length = b.runs.length
  runs : ∀ i, i < b.runs.length → ERs w (x.rs.getD i default).2 (b.runs.getD i default)
theorem hdsAt_below {w w' : World} {a : Option Addr} {l : List Hdr} (h : hdsAt w a l) (hb : Below w.heap.size w w') : hdsAt w' a l := fun i hi => by
  obtain ⟨b, o, e, x⟩ := h i hi
  exact ⟨b, o, e, cell_later hb x⟩
theorem bufAt_below {w w' : World} {b : Buf} {x : BX} (h : bufAt w b x) (hb : Below w.heap.size w w') : bufAt w' b x :=
  ⟨hdsAt_below h.hds hb, h.len, fun p hp => emsAt_below (h.ems p hp) hb, h.few, h.mem.below hb, h.rlen, fun i hi => (h.runs i hi).below hb⟩
def partsB (b : Buf) : List (List Ent) := b.mem :: b.runs
def entsB (b : Buf) : List Ent := (partsB b).flatten
theorem ERs_flat {w : World} : ∀ {p : List Part} {l : List (List Ent)}, p.length = l.length → (∀ i, i < l.length → ERs w (p.getD i default).2 (l.getD i default)) → ERs w (ems p) l.flatten
  | [], [], _, _ => ERs_nil w
  | [], _ :: _, h, _ => by cases h
  | _ :: _, [], h, _ => by cases h
  | p :: ps, x :: xs, h, k => by
    have h1 := k 0 (by simp)
    have h2 := ERs_flat (p := ps) (l := xs) (by simpa using h) (fun i hi => by have := k (i + 1) (by simpa using hi); simpa using this)
    exact ERs_app (by simpa using h1) h2
theorem bufAt_ents {w : World} {b : Buf} {x : BX} (h : bufAt w b x) : ERs w (ems (x.m :: x.rs)) (entsB b) :=
  ERs_flat (by simp [partsB, h.rlen]) (fun i hi => by
    cases i with
    | zero => exact h.mem
    | succ i =>
      have hi' : i < b.runs.length := by simpa [partsB] using hi
      simpa [partsB] using h.runs i hi')
theorem box_at {w : World} {B : Nat} {b : Buf} {x : BX} (h : bufAt w b x) (h0 : w.cell? ⟨B, 0, none⟩ = some (.int .i64 b.lim)) (h1 : w.cell? ⟨B, 1, none⟩ = some (hdV x.m.1)) (h2 : w.cell? ⟨B, 2, none⟩ = some (.slice x.ra x.rs.length x.rc)) : boxAt w B b.lim x.ra x.rc x.m x.rs :=
  ⟨h0, h1, h2, h.hds, h.len, h.ems, h.few⟩
theorem own_low {n B : Nat} {w W W' : World} {row : Option Nat} (h : Below n w W) (hn : n ≤ w.heap.size) (hB : n ≤ B) (hg : W.grownBy W' row) (hr : ∀ r, row = some r → B ≤ r ∧ ∃ x : Obj, W.heap[r]? = some x ∧ x.isCells = false) : Below n w W' :=
  h.grown hg (Nat.le_trans hn h.size) (fun r e => Nat.le_trans hB (hr r e).1)
theorem put_low {n D : Nat} {w W : World} {o : Obj} (h : Below n w W) (hn : n ≤ D) (hD : W.heap[D]? = some o) (o' : Obj) : Below n w (W.putObj D o') :=
  h.trans ⟨rfl, rfl, rfl, by simp, fun k hk => World.putObj_heap_other (by omega)⟩
/-- everything but one block -/
def allBut (B : Nat) : Nat → Obj → Prop := fun b _ => b ≠ B
theorem names_but {B b : Nat} {W : World} (h : b ≠ B) : names (allBut B) W b := fun _ _ => h
theorem but_set {B : Nat} (W : World) (o : Nat) (v : Value) : KeepO (allBut B) W (W.setCell ⟨B, o, none⟩ v) := fun b x h1 _ h3 => (heap_setCell_other W ⟨B, o, none⟩ b v h3).trans h1
theorem iter_parts {w V : World} {b : Buf} {x : BX} (h : bufAt w b x) (hb : Below w.heap.size w V) (BP : Nat) (Pr : Nat → Obj → Prop) (h1 : V.cell? ⟨BP, 1, none⟩ = some (hdV x.m.1)) (h2 : V.cell? ⟨BP, 2, none⟩ = some (.slice x.ra x.rs.length x.rc)) (hS : names Pr V BP) (hS2 : ∀ a, 0 < x.rs.length → x.ra = some a → names Pr V a.block) :
    Iter Try.prog 75 #[.pointer (some ⟨BP, 0, none⟩)] ((x.m :: x.rs).map fun p => #[hdV p.1]) (KeepO Pr) V := by
  have hl : (x.rs.map (·.1)).length = x.rs.length := List.length_map ..
  have := parts_iter BP 0 x.m.1 x.ra x.rc (x.rs.map (·.1)) Pr V (by rw [hl]; exact h.few) h1 (by rw [hl]; exact h2) (hdsAt_below h.hds hb) hS (fun a h0 ha => hS2 a (by rw [hl] at h0; exact h0) ha)
  rw [show ((x.m :: x.rs).map fun p => #[hdV p.1]) = ((x.m.1 :: x.rs.map (·.1)).map fun h => #[hdV h]) by simp]
  exact this
theorem ra_lt {w : World} {b : Buf} {x : BX} (h : bufAt w b x) {a : Addr} (h0 : 0 < x.rs.length) (ha : x.ra = some a) : a.block < w.heap.size := by
  obtain ⟨b', o, e, y⟩ := h.hds 0 (by simpa using h0)
  rw [ha] at e; cases e
  exact World.block_lt_of_cell? _ _ y
theorem offs_le (p : List Part) (i : Nat) : offs p i ≤ (ems p).length := by
  have h : ems p = ems (p.take i) ++ ems (p.drop i) := by rw [← ems_app, List.take_append_drop]
  unfold offs
  rw [h, List.length_append]; omega
set_option maxHeartbeats 4000000 in
theorem size_any (b : Buf) (x : BX) (w : World) (h : bufAt w b x) (hs : (entsB b).length ≤ 4611686018427387904) :
    Calls Try.prog 33 #[bufV b x] w fun e w' => e = .returned (.int .i64 (entsB b).length) ∧ Below w.heap.size w w' := by
  have HB : Hid (bufAt w b x) := h
  obtain ⟨N, hN⟩ : ∃ z, (entsB b).length = z := ⟨_, rfl⟩
  have HEN : Hid (offs (x.m :: x.rs) (x.m :: x.rs).length = N) := by show _ = _; rw [offs_end, (bufAt_ents h).1, hN]
  rw [hN] at hs ⊢
  clear hN h
  obtain ⟨ra, rc, ⟨⟨m1, m2, m3⟩, ml⟩, rs⟩ := x
  obtain ⟨lim, mem, runs⟩ := b
  unfold bufV hdV
  dsimp only at HEN ⊢
  obtain ⟨n, hn⟩ : ∃ n, rs.length = n := ⟨_, rfl⟩
  have HN : Hid (rs.length = n) := hn
  rw [hn]
  clear hn
  refine (callsIn_wide (n := 0)).1 ?_
  refine callsIn_of_wp_marks Try.func33 rfl trivial ?_ rfl
  simp only [Try.ntmps33, List.size_toArray, List.length_cons, List.length_nil, Nat.reduceAdd, Nat.reduceSub, Array.replicate_succ, Array.replicate_zero, List.push_toArray, List.append_toArray, List.nil_append, List.cons_append]
  gi_wp2_with (refine ⟨trivial, rfl, ?_⟩; gi_at_call 48; refine (callsIn_wide.2 (parts_any _ _ _ rfl rfl rfl _)).mono ?_; rintro e w' ⟨rfl, rfl⟩)
  have V0 : ((((w.alloc (.cells #[.int .i64 lim, .slice m1 m2 m3, .slice ra n rc] 25)).alloc (.cells #[.int .i64 0] 3)).alloc (.cells #[.int .i64 lim, .slice m1 m2 m3, .slice ra n rc] 25))).cell? ⟨w.heap.size + 1, 0, none⟩ = some (.int .i64 0) := by go_simp
  have V1 : ((((w.alloc (.cells #[.int .i64 lim, .slice m1 m2 m3, .slice ra n rc] 25)).alloc (.cells #[.int .i64 0] 3)).alloc (.cells #[.int .i64 lim, .slice m1 m2 m3, .slice ra n rc] 25))).frozen? ⟨w.heap.size + 1, 0, none⟩ = false := by go_simp
  have V2 : ((((w.alloc (.cells #[.int .i64 lim, .slice m1 m2 m3, .slice ra n rc] 25)).alloc (.cells #[.int .i64 0] 3)).alloc (.cells #[.int .i64 lim, .slice m1 m2 m3, .slice ra n rc] 25))).cell? ⟨w.heap.size + 1 + 1, 1, none⟩ = some (.slice m1 m2 m3) := by go_simp
  have V3 : ((((w.alloc (.cells #[.int .i64 lim, .slice m1 m2 m3, .slice ra n rc] 25)).alloc (.cells #[.int .i64 0] 3)).alloc (.cells #[.int .i64 lim, .slice m1 m2 m3, .slice ra n rc] 25))).cell? ⟨w.heap.size + 1 + 1, 2, none⟩ = some (.slice ra n rc) := by go_simp
  have V4 : Below w.heap.size w ((((w.alloc (.cells #[.int .i64 lim, .slice m1 m2 m3, .slice ra n rc] 25)).alloc (.cells #[.int .i64 0] 3)).alloc (.cells #[.int .i64 lim, .slice m1 m2 m3, .slice ra n rc] 25))) := by
    repeat (first | exact Below.refl _ _ | (refine Below.alloc ?_ (by simp <;> omega) _))
  have V5 : ((((w.alloc (.cells #[.int .i64 lim, .slice m1 m2 m3, .slice ra n rc] 25)).alloc (.cells #[.int .i64 0] 3)).alloc (.cells #[.int .i64 lim, .slice m1 m2 m3, .slice ra n rc] 25))).heap.size = w.heap.size + 1 + 1 + 1 := by simp
  generalize ((((w.alloc (.cells #[.int .i64 lim, .slice m1 m2 m3, .slice ra n rc] 25)).alloc (.cells #[.int .i64 0] 3)).alloc (.cells #[.int .i64 lim, .slice m1 m2 m3, .slice ra n rc] 25))) = V at *
  have hit := iter_parts HB.out V4 (w.heap.size + 1 + 1) (allBut (w.heap.size + 1)) V2 (by rw [HN.out]; exact V3) (names_but (by omega)) (fun a h0 ha => names_but (by have := ra_lt HB.out h0 ha; omega))
  obtain ⟨P, hP⟩ : ∃ z : List Part, (((m1, m2, m3), ml) :: rs) = z := ⟨_, rfl⟩
  dsimp only at hit
  rw [hP] at hit HEN
  have HPM : Hid (∀ p ∈ P, p.1.2.1 = p.2.length ∧ p.2.length ≤ 9223372036854775807) := fun p hp => HB.out.len p (by rw [← hP] at hp; exact hp)
  clear hP
  refine range_law (gf := 75) (lb := #[.pointer (some ⟨w.heap.size + 1 + 1, 0, none⟩)]) rfl (enters_of Try.func75 (by kernel_rfl) rfl) hit (Below.refl _ _) (fun x hx => by obtain ⟨p, _, rfl⟩ := List.mem_map.1 hx; rfl) (fun h k => KeepO.trans h k) (fun W l o o' _ h ho => KeepO.put W l o o' h ho)
    (fun i X => X.cell? ⟨w.heap.size + 1, 0, none⟩ = some (.int .i64 (offs P i)) ∧ X.frozen? ⟨w.heap.size + 1, 0, none⟩ = false ∧ Below w.heap.size w X) (fun c X => False)
    (fun i X X' row hs hg hr => ⟨cell_kept hs.1 hg (fun r e => (hr r e).2), (frozen_kept hs.1 hg (fun r e => (hr r e).2)).trans hs.2.1, own_low hs.2.2 (Nat.le_refl _) (by omega) hg hr⟩)
    (fun c X X' row hs hg hr => hs)
    ⟨V0, V1, V4⟩
    (fun i a' X => a' = { tmps := #[.agg #[.int .i64 lim, .slice m1 m2 m3, .slice ra n rc], .pointer (some ⟨w.heap.size, 0, none⟩), .int .i64 0, .pointer (some ⟨w.heap.size + 1, 0, none⟩), hdV (P.getD i default).1, .agg #[.int .i64 lim, .slice m1 m2 m3, .slice ra n rc], .func (.func 75) #[] #[.pointer (some ⟨w.heap.size + 1 + 1, 0, none⟩)], hdV (P.getD i default).1, undef, undef, undef, undef, undef], defers := [] })
    (fun i a' u X X' row hs hg hr => hs) ?assign ?body ?done ?stop
  case assign =>
    intro l' k x X K hx hi hK
    obtain ⟨hk, hxe⟩ := List.getElem?_eq_some_iff.1 hx
    rw [List.length_map] at hk
    rw [List.getElem_map] at hxe
    subst hxe
    have hd : P.getD k default = P[k] := by rw [List.getD_eq_getElem?_getD, List.getElem?_eq_getElem hk]; rfl
    have hK2 := fun W' h1 h2 h3 => hK _ W' h1 h2 h3 rfl
    rw [hd] at hK2
    clear hK hd hx
    obtain ⟨⟨⟨z1, z2, z3⟩, zl⟩, hz⟩ : ∃ z, P[k] = z := ⟨_, rfl⟩
    rw [hz] at hK2 ⊢
    unfold hdV at hK2 ⊢
    dsimp only at hK2 ⊢
    gi_wp2
    exact hK2 X (KeepsFrom.refl _ _) (KeepO.refl _ _) hi
  case body =>
    intro l' i x a' X hx hl' hrec hIi hax
    obtain ⟨i1, i2, i3⟩ := hIi
    obtain ⟨hi, hxe⟩ := List.getElem?_eq_some_iff.1 hx
    rw [List.length_map] at hi
    have hd : P.getD i default = P[i] := by rw [List.getD_eq_getElem?_getD, List.getElem?_eq_getElem hi]; rfl
    rw [hd] at hax
    subst hax
    have hpm := HPM.out P[i] (List.getElem_mem hi)
    have hnx : offs P (i + 1) = offs P i + (P[i]).2.length := offs_succ hi
    have hle : offs P (i + 1) ≤ N := by have := offs_le P (i + 1); rw [offs_end] at HEN; have h2 := HEN.out; omega
    clear hx hxe hd
    obtain ⟨⟨⟨z1, z2, z3⟩, zl⟩, hz⟩ : ∃ z, P[i] = z := ⟨_, rfl⟩
    rw [hz] at hpm hnx ⊢
    dsimp only at hpm hnx ⊢
    obtain ⟨hz2, hzl⟩ := hpm
    subst hz2
    obtain ⟨q, hq⟩ : ∃ q, zl.length = q := ⟨_, rfl⟩
    rw [hq] at hnx hzl
    unfold hdV
    dsimp only
    rw [hq]
    obtain ⟨O, hO⟩ : ∃ O, offs P i = O := ⟨_, rfl⟩
    obtain ⟨O2, hO2⟩ : ∃ O, offs P (i + 1) = O := ⟨_, rfl⟩
    rw [hO] at i1 hnx
    rw [hO2] at hnx hle
    have HO2 : Hid (offs P (i + 1) = O2 ∧ O2 = O + q) := ⟨hO2, hnx⟩
    clear hO hO2 hq
    have hwr : IntKind.i64.wrap ((O : Int) + (q : Int)) = (O : Int) + (q : Int) := by rw [IntKind.wrap_i64]; omega
    gi_wp2
    refine ⟨(KeepsOthers.setCell _ _ _).from _, but_set _ _ _, ?_, by simpa using i2, i3.setCell (by simp) _⟩
    rw [HO2.out.1, HO2.out.2]
    have := World.cell?_setCell_same X ⟨w.heap.size + 1, 0, none⟩ (.int .i64 ((O : Int) + (q : Int))) i1
    rw [Int.natCast_add]; exact this
  case done =>
    rintro D X hD ⟨i1, i2, i3⟩ hK
    rw [List.length_map, HEN.out] at i1
    gi_wp2
    refine ⟨by simp, .inl ⟨_, _, rfl, run_takeDeferred hK, ?_⟩⟩
    exact ⟨_, results_tmp rfl _ _ _, rfl, put_low i3 (by omega) hK _⟩
  case stop =>
    rintro D c X hD h hK
    exact h.elim
end Go.Proofs.Ytnfknkihiapgiaa.bf
