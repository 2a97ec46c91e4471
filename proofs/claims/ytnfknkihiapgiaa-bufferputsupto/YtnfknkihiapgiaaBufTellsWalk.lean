/- BufferTells: the law's body. -/
import Derived.Test.YtnfknkihiapgiaaFrD
import Derived.Test.YtnfknkihiapgiaaFsA
import Derived.Test.YtnfknkihiapgiaaBufBegun
import Derived.Deep.RegionHeld3
namespace Go.Proofs.Ytnfknkihiapgiaa.bf
open Go.ChangeShapes Go.WideShapes Go.ChangeAt Go.RowKit
open vl
set_option linter.unusedVariables false
set_option linter.unusedSimpArgs false
attribute [local go_sem] Oper.semAt_some
theorem empty_at (w : World) : bufAt w ⟨0, [], []⟩ ⟨none, 0, ((none, 0, 0), []), []⟩ := (OB_first (base := 0) (hh := (none, 0, 0)) (OE_nil (Nat.zero_le _))).at
theorem empty_same (w : World) : Calls Try.prog 13 #[.agg #[.int .i64 0, .slice none 0 0, .slice none 0 0], .agg #[.int .i64 0, .slice none 0 0, .slice none 0 0]] w fun e w' => e = .returned (.bool true) ∧ Below w.heap.size w w' := by
  have k := sameB_eq ⟨0, [], []⟩ ⟨none, 0, ((none, 0, 0), []), []⟩ ⟨none, 0, ((none, 0, 0), []), []⟩ w (empty_at w) (empty_at w) (fun l hl => by simp [partsB] at hl; subst hl; simp) (fun y hy => by simp [entsB, partsB] at hy)
  unfold bufV hdV at k
  dsimp only [List.length_nil] at k
  exact k
theorem once_rise {b : Buf} {l : List Ent} (ok : okB b) (hp : l.Perm (entsB b)) (h : byPl l) : Rise l := rise_of h ((perm_once hp).2 ok.once)
theorem once_rise2 {b : Buf} {l : List Ent} {P : Ent → Bool} (ok : okB b) (hp : l.Perm ((entsB b).filter P)) (h : byPl l) : Rise l :=
  rise_of h ((perm_once hp).2 ((List.filter_sublist.map plOf).nodup ok.once))
/-- two tellings of the same entries -/
theorem tells_same {w : World} {a a' : Option Addr} {c c' : Nat} {es es' : List EM} {l l' L : List Ent} (h1 : emsAt w a es) (h2 : ERs w es l) (h3 : emsAt w a' es') (h4 : ERs w es' l') (hp : l.Perm L) (hp' : l'.Perm L) (hr : Rise l) (hr' : Rise l') (hL : ∀ y ∈ L, y.row.length ≤ 2000000) (hn : L.length ≤ 4096) :
    Calls Try.prog 24 #[.slice a l.length c, .slice a' l'.length c'] w fun e w' => e = .returned (.bool true) ∧ Below w.heap.size w w' := by
  have e : l = l' := rise_one (hp.trans hp'.symm) hr hr'
  subst e
  exact sameE_eq a a' c c' es es' l w h1 h2 h3 h4 (by rw [hp.length_eq]; omega) (fun y hy => by have := hL y (hp.mem_iff.1 hy); omega)
set_option maxRecDepth 100000 in
set_option maxHeartbeats 8000000 in
theorem tells_bad (b : Buf) (x : BX) (key : ByteArray) (a z : Int) (w : World) (h : bufAt w b x) (hw : ∀ y ∈ entsB b, wfE y ∧ wfP (plOf y) ∧ y.key.size ≤ 140737488355328 ∧ y.row.length ≤ 2000000) (hs : (entsB b).length ≤ 4611686018427387904) (he : errB b ≠ 0) :
    Calls Try.prog 5 #[bufV b x, .string key, .int .i64 a, .int .i64 z] w fun e w' => e = .returned (.bool true) ∧ Below w.heap.size w w' := by
  have hw1 : ∀ y ∈ entsB b, wfE y ∧ wfP (plOf y) := fun y hy => ⟨(hw y hy).1, (hw y hy).2.1⟩
  have K1 : Hid (∀ w1, Below w.heap.size w w1 → Calls Try.prog 20 #[bufV b x, .string key, .int .i64 a, .int .i64 z] w1 fun e w' => e = .returned (.tuple #[.slice none 0 0, .int .i64 (errB b)]) ∧ Below w1.heap.size w1 w') := fun w1 hb => scan_bad b x key a z w1 (bufAt_below h hb) hw1 hs he
  have K2 : Hid (∀ w1, Below w.heap.size w w1 → Calls Try.prog 21 #[bufV b x] w1 fun e w' => e = .returned (.tuple #[.slice none 0 0, .int .i64 (errB b)]) ∧ Below w1.heap.size w1 w') := fun w1 hb => all_bad b x w1 (bufAt_below h hb) hw1 hs he
  have K3 : Hid (∀ w1, Below w.heap.size w w1 → Calls Try.prog 22 #[bufV b x, .int .i64 z] w1 fun e w' => e = .returned (.tuple #[.agg #[.int .i64 0, .slice none 0 0, .slice none 0 0], .int .i64 (errB b)]) ∧ Below w1.heap.size w1 w') := fun w1 hb => drop_bad b x z w1 (bufAt_below h hb) hw1 hs he
  have K4 : Hid (∀ w1, Below w.heap.size w w1 → Calls Try.prog 23 #[bufV b x] w1 fun e w' => e = .returned (.tuple #[.agg #[.int .i64 0, .slice none 0 0, .slice none 0 0], .int .i64 (errB b)]) ∧ Below w1.heap.size w1 w') := fun w1 hb => pack_bad b x w1 (bufAt_below h hb) hw1 hs he
  have K5 : Hid (∀ w1, Below w.heap.size w w1 → Calls Try.prog 9 #[bufV b x] w1 fun e w' => e = .returned (.int .i64 (errB b)) ∧ Below w1.heap.size w1 w') := fun w1 hb => rcheck_any b x w1 (bufAt_below h hb) (fun y hy => ⟨(hw y hy).1, (hw y hy).2.2⟩) hs
  have KB : Hid (∀ w1, Calls Try.prog 12 #[] w1 fun e w' => e = .returned (.bool true) ∧ Below w1.heap.size w1 w') := fun w1 => begun_any w1
  have KS : Hid (∀ w1, Calls Try.prog 13 #[.agg #[.int .i64 0, .slice none 0 0, .slice none 0 0], .agg #[.int .i64 0, .slice none 0 0, .slice none 0 0]] w1 fun e w' => e = .returned (.bool true) ∧ Below w1.heap.size w1 w') := fun w1 => empty_same w1
  obtain ⟨E, hE⟩ : ∃ z, errB b = z := ⟨_, rfl⟩
  rw [hE] at K1 K2 K3 K4 K5 he
  have he' : (E != 0) = true := by simpa using he
  clear h hw hw1 hs hE
  obtain ⟨ra, rc, ⟨⟨m1, m2, m3⟩, ml⟩, rs⟩ := x
  obtain ⟨lim, mem, runs⟩ := b
  obtain ⟨n, hn⟩ : ∃ n, rs.length = n := ⟨_, rfl⟩
  have hbv : bufV ⟨lim, mem, runs⟩ ⟨ra, rc, ((m1, m2, m3), ml), rs⟩ = .agg #[.int .i64 lim, .slice m1 m2 m3, .slice ra n rc] := by rw [← hn]; rfl
  rw [hbv] at K1 K2 K3 K4 K5 ⊢
  clear hbv hn
  have hb0 : Below w.heap.size w (w.alloc (.cells #[.int .i64 lim, .slice m1 m2 m3, .slice ra n rc] 25)) := (Below.refl _ _).alloc (Nat.le_refl _) _
  go_enter Try.func5, Try.ntmps5
  go_wp2_with (first
    | (go_at_call 20; refine (K1.out _ hb0).mono ?_; rintro e w1 ⟨rfl, hb1⟩; have hw1 : Below w.heap.size w w1 := hb0.trans (hb1.mono hb0.size); have a0 : w1.cell? ⟨w.heap.size, 0, none⟩ = some (.int .i64 lim) := cell_later hb1 (by go_simp); have a1 : w1.cell? ⟨w.heap.size, 1, none⟩ = some (.slice m1 m2 m3) := cell_later hb1 (by go_simp); have a2 : w1.cell? ⟨w.heap.size, 2, none⟩ = some (.slice ra n rc) := cell_later hb1 (by go_simp))
    | (go_at_call 21; refine (K2.out _ hw1).mono ?_; rintro e w2 ⟨rfl, hb2⟩; have hw2 : Below w.heap.size w w2 := hw1.trans (hb2.mono hw1.size); have b0 := cell_later hb2 a0; have b1 := cell_later hb2 a1; have b2 := cell_later hb2 a2)
    | (go_at_call 22; refine (K3.out _ hw2).mono ?_; rintro e w3 ⟨rfl, hb3⟩; have hw3 : Below w.heap.size w w3 := hw2.trans (hb3.mono hw2.size); have c0 := cell_later hb3 b0; have c1 := cell_later hb3 b1; have c2 := cell_later hb3 b2; have l3 : w.heap.size < w3.heap.size := World.block_lt_of_cell? _ _ c0; have hw3' : Below w.heap.size w (w3.alloc (.cells #[.int .i64 0, .slice none 0 0, .slice none 0 0] 25)) := hw3.alloc hw3.size _)
    | (go_at_call 23; refine (K4.out _ hw3').mono ?_; rintro e w4 ⟨rfl, hb4⟩; have hw4 : Below w.heap.size w w4 := hw3'.trans (hb4.mono hw3'.size); have d0 : w4.cell? ⟨w.heap.size, 0, none⟩ = some (.int .i64 lim) := cell_later hb4 (by go_simp); have d1 : w4.cell? ⟨w.heap.size, 1, none⟩ = some (.slice m1 m2 m3) := cell_later hb4 (by go_simp); have d2 : w4.cell? ⟨w.heap.size, 2, none⟩ = some (.slice ra n rc) := cell_later hb4 (by go_simp); have D0 : w4.cell? ⟨w3.heap.size, 0, none⟩ = some (.int .i64 0) := cell_later hb4 (by go_simp); have D1 : w4.cell? ⟨w3.heap.size, 1, none⟩ = some (.slice none 0 0) := cell_later hb4 (by go_simp); have D2 : w4.cell? ⟨w3.heap.size, 2, none⟩ = some (.slice none 0 0) := cell_later hb4 (by go_simp); have l4 : w.heap.size < w4.heap.size := World.block_lt_of_cell? _ _ d0; have l43 : w3.heap.size < w4.heap.size := World.block_lt_of_cell? _ _ D0; have hw4' : Below w.heap.size w (w4.alloc (.cells #[.int .i64 0, .slice none 0 0, .slice none 0 0] 25)) := hw4.alloc hw4.size _)
    | (go_at_call 9; refine (K5.out _ hw4').mono ?_; rintro e w5 ⟨rfl, hb5⟩; have hw5 : Below w.heap.size w w5 := hw4'.trans (hb5.mono hw4'.size); have E0 : w5.cell? ⟨w3.heap.size, 0, none⟩ = some (.int .i64 0) := cell_later hb5 (by go_simp); have E1 : w5.cell? ⟨w3.heap.size, 1, none⟩ = some (.slice none 0 0) := cell_later hb5 (by go_simp); have E2 : w5.cell? ⟨w3.heap.size, 2, none⟩ = some (.slice none 0 0) := cell_later hb5 (by go_simp); have F0 : w5.cell? ⟨w4.heap.size, 0, none⟩ = some (.int .i64 0) := cell_later hb5 (by go_simp); have F1 : w5.cell? ⟨w4.heap.size, 1, none⟩ = some (.slice none 0 0) := cell_later hb5 (by go_simp); have F2 : w5.cell? ⟨w4.heap.size, 2, none⟩ = some (.slice none 0 0) := cell_later hb5 (by go_simp))
    | (go_at_call 12; refine (KB.out _).mono ?_; rintro e w6 ⟨rfl, hb6⟩; have hw6 : Below w.heap.size w w6 := hw5.trans (hb6.mono hw5.size); have G0 := cell_later hb6 E0; have G1 := cell_later hb6 E1; have G2 := cell_later hb6 E2; have I0 := cell_later hb6 F0; have I1 := cell_later hb6 F1; have I2 := cell_later hb6 F2; have HX : Hid True := trivial)
    | (go_at_call 13; refine (KS.out _).mono ?_; rintro e w8 ⟨rfl, hb8⟩; have hb78 : Below w7.heap.size w7 w8 := hb8; have hw8 : Below w.heap.size w w8 := hw7.trans (hb8.mono hw7.size))
    | (go_at_call 13; refine (KS.out _).mono ?_; rintro e w7 ⟨rfl, hb7⟩; have hw7 : Below w.heap.size w w7 := hw6.trans (hb7.mono hw6.size); have J0 := cell_later hb7 I0; have J1 := cell_later hb7 I1; have J2 := cell_later hb7 I2))
  go_ret
  exact ⟨rfl, hw8⟩
theorem hdr_len {w : World} {base q2 : Nat} {q1 : Option Addr} {q3 : Nat} {es : List EM} {l : List Ent} (h : OE w base (.slice q1 q2 q3) es l) : q2 = l.length ∧ emsAt w q1 es ∧ ERs w es l := by
  obtain ⟨ad, cp, e⟩ := h.form
  cases e
  exact ⟨h.len, h.at, h.ers⟩
theorem kept_rows {b : Buf} {P : Ent → Bool} (ok : okB b) : (∀ l ∈ partsB (keptB P b), l.length ≤ 9223372036854775807) ∧ ∀ y ∈ entsB (keptB P b), y.row.length ≤ 9223372036854775807 := by
  have hsm := ok.small
  have hin : ∀ l ∈ partsB (keptB P b), ∃ l0 ∈ partsB b, l = l0.filter P := fun l hl => by
    rcases List.mem_cons.1 hl with rfl | hl
    · exact ⟨b.mem, List.mem_cons_self .., rfl⟩
    · have h1 := (List.mem_filter.1 hl).1
      obtain ⟨r, hr, rfl⟩ := List.mem_map.1 h1
      exact ⟨r, List.mem_cons_of_mem _ hr, rfl⟩
  refine ⟨fun l hl => ?_, fun y hy => ?_⟩
  · obtain ⟨l0, h0, rfl⟩ := hin l hl
    have h1 := hsm.1 l0 h0
    have h2 := List.length_filter_le P l0
    omega
  · obtain ⟨l, hl, hy⟩ := List.mem_flatten.1 hy
    obtain ⟨l0, h0, rfl⟩ := hin l hl
    have := hsm.2.2 y (List.mem_flatten.2 ⟨l0, h0, (List.mem_filter.1 hy).1⟩)
    omega
theorem pack_rows {b : Buf} {l : List Ent} (ok : okB b) (hp : l.Perm (entsB b)) : (∀ p ∈ partsB (packB b.lim l), p.length ≤ 9223372036854775807) ∧ ∀ y ∈ entsB (packB b.lim l), y.row.length ≤ 9223372036854775807 := by
  have hsm := ok.small
  have ha := ok.all
  have hin : ∀ p ∈ partsB (packB b.lim l), p = [] ∨ p = l := fun p h => by
    unfold partsB packB at h
    dsimp only at h
    rcases List.mem_cons.1 h with rfl | h
    · exact .inl rfl
    · split at h
      · simp at h; exact .inr h
      · cases h
  refine ⟨fun p h => ?_, fun y hy => ?_⟩
  · rcases hin p h with rfl | rfl
    · simp
    · rw [hp.length_eq]; omega
  · obtain ⟨p, h, hy2⟩ := List.mem_flatten.1 hy
    rcases hin p h with e | e
    · rw [e] at hy2; cases hy2
    · rw [e] at hy2
      have := hsm.2.2 y (hp.mem_iff.1 hy2); omega
set_option maxRecDepth 100000 in
set_option maxHeartbeats 16000000 in
theorem tells_ok (b : Buf) (x : BX) (key : ByteArray) (a z : Int) (w : World) (h : bufAt w b x) (hw : ∀ y ∈ entsB b, wfE y ∧ wfP (plOf y) ∧ y.key.size ≤ 140737488355328 ∧ y.row.length ≤ 2000000) (hs : (entsB b).length ≤ 4611686018427387904) (he : errB b = 0) :
    Calls Try.prog 5 #[bufV b x, .string key, .int .i64 a, .int .i64 z] w fun e w' => e = .returned (.bool true) ∧ Below w.heap.size w w' := by
  have hw1 : ∀ y ∈ entsB b, wfE y ∧ wfP (plOf y) := fun y hy => ⟨(hw y hy).1, (hw y hy).2.1⟩
  have ok := okB_of he
  have K1 : Hid (∀ w1, Below w.heap.size w w1 → Calls Try.prog 20 #[bufV b x, .string key, .int .i64 a, .int .i64 z] w1 fun e w' => (∃ (hh : Hdr) (es' : List EM) (l' : List Ent), e = .returned (.tuple #[hdV hh, .int .i64 0]) ∧ l'.Perm ((entsB b).filter (inScan key a z)) ∧ Rise l' ∧ OE w' w1.heap.size (hdV hh) es' l') ∧ Below w1.heap.size w1 w') := fun w1 hb => (scan_ok b x key a z w1 (bufAt_below h hb) hw1 hs he).mono (fun e w' ⟨⟨hh, es', l', h1, h2, h3, h4⟩, h5⟩ => ⟨⟨hh, es', l', h1, h2, once_rise2 ok h2 h3, h4⟩, h5⟩)
  have K2 : Hid (∀ w1, Below w.heap.size w w1 → Calls Try.prog 21 #[bufV b x] w1 fun e w' => (∃ (hh : Hdr) (es' : List EM) (l' : List Ent), e = .returned (.tuple #[hdV hh, .int .i64 0]) ∧ l'.Perm (entsB b) ∧ Rise l' ∧ OE w' w1.heap.size (hdV hh) es' l') ∧ Below w1.heap.size w1 w') := fun w1 hb => (all_ok b x w1 (bufAt_below h hb) hw1 hs he).mono (fun e w' ⟨⟨hh, es', l', h1, h2, h3, h4⟩, h5⟩ => ⟨⟨hh, es', l', h1, h2, once_rise ok h2 h3, h4⟩, h5⟩)
  have K3 : Hid (∀ w1, Below w.heap.size w w1 → Calls Try.prog 22 #[bufV b x, .int .i64 z] w1 fun e w' => (∃ x', e = .returned (.tuple #[bufV (keptB (afterT z) b) x', .int .i64 0]) ∧ OB w' w1.heap.size x' (keptB (afterT z) b)) ∧ Below w1.heap.size w1 w') := fun w1 hb => drop_ok b x z w1 (bufAt_below h hb) hw1 hs he
  have K4 : Hid (∀ w1, Below w.heap.size w w1 → Calls Try.prog 23 #[bufV b x] w1 fun e w' => (∃ x' l', e = .returned (.tuple #[bufV (packB b.lim l') x', .int .i64 0]) ∧ l'.Perm (entsB b) ∧ Rise l' ∧ OB w' w1.heap.size x' (packB b.lim l')) ∧ Below w1.heap.size w1 w') := fun w1 hb => (pack_ok b x w1 (bufAt_below h hb) hw1 hs he).mono (fun e w' ⟨⟨x', l', h1, h2, h3, h4⟩, h5⟩ => ⟨⟨x', l', h1, h2, once_rise ok h2 h3, h4⟩, h5⟩)
  have K5 : Hid (∀ w1, Below w.heap.size w w1 → Calls Try.prog 9 #[bufV b x] w1 fun e w' => e = .returned (.int .i64 0) ∧ Below w1.heap.size w1 w') := fun w1 hb => by
    have := rcheck_any b x w1 (bufAt_below h hb) (fun y hy => ⟨(hw y hy).1, (hw y hy).2.2⟩) hs
    rwa [he] at this
  have KB : Hid (∀ w1, Calls Try.prog 12 #[] w1 fun e w' => e = .returned (.bool true) ∧ Below w1.heap.size w1 w') := fun w1 => begun_any w1
  have R1 : Hid (∀ w1, Below w.heap.size w w1 → Calls Try.prog 25 #[bufV b x, .string key, .int .i64 a, .int .i64 z] w1 fun e w' => (∃ (ad : Option Addr) (cap : Nat) (es : List EM) (l : List Ent), e = .returned (.slice ad l.length cap) ∧ emsAt w' ad es ∧ ERs w' es l ∧ l.Perm ((entsB b).filter (inScan key a z)) ∧ Rise l) ∧ Below w1.heap.size w1 w') := fun w1 hb => scanIn_ok b x key a z w1 (bufAt_below h hb) ok
  have R2 : Hid (∀ w1, Below w.heap.size w w1 → Calls Try.prog 26 #[bufV b x] w1 fun e w' => (∃ (ad : Option Addr) (cap : Nat) (es : List EM) (l : List Ent), e = .returned (.slice ad l.length cap) ∧ emsAt w' ad es ∧ ERs w' es l ∧ l.Perm (entsB b) ∧ Rise l) ∧ Below w1.heap.size w1 w') := fun w1 hb => (allIn_ok b x w1 (bufAt_below h hb) ok).mono (fun e w' ⟨⟨⟨q1, q2, q3⟩, es, l, h1, h2, h3, h4⟩, h5⟩ => by
    obtain ⟨e1, e2, e3⟩ := hdr_len (q1 := q1) (q2 := q2) (q3 := q3) h2
    exact ⟨⟨q1, q3, es, l, by rw [h1, ← e1]; rfl, e2, e3, h3, h4⟩, h5⟩)
  have R3 : Hid (∀ w1, Below w.heap.size w w1 → Calls Try.prog 27 #[bufV b x, .int .i64 z] w1 fun e w' => (∃ x', e = .returned (bufV (keptB (afterT z) b) x') ∧ OB w' w1.heap.size x' (keptB (afterT z) b)) ∧ Below w1.heap.size w1 w') := fun w1 hb => dropIn_ok b x z w1 (bufAt_below h hb) ok
  have R4 : Hid (∀ w1, Below w.heap.size w w1 → Calls Try.prog 28 #[bufV b x] w1 fun e w' => (∃ x' l', e = .returned (bufV (packB b.lim l') x') ∧ l'.Perm (entsB b) ∧ Rise l' ∧ OB w' w1.heap.size x' (packB b.lim l')) ∧ Below w1.heap.size w1 w') := fun w1 hb => packIn_ok b x w1 (bufAt_below h hb) ok
  have HSE : Hid (∀ y ∈ entsB b, y.row.length ≤ 2000000) := ok.size.2
  have HAL : Hid ((entsB b).length ≤ 4096) := ok.all
  have HKR : Hid ((∀ l ∈ partsB (keptB (afterT z) b), l.length ≤ 9223372036854775807) ∧ ∀ y ∈ entsB (keptB (afterT z) b), y.row.length ≤ 9223372036854775807) := kept_rows ok
  have HPR : Hid (∀ l, l.Perm (entsB b) → (∀ p ∈ partsB (packB b.lim l), p.length ≤ 9223372036854775807) ∧ ∀ y ∈ entsB (packB b.lim l), y.row.length ≤ 9223372036854775807) := fun l hp => pack_rows ok hp
  clear h hw hw1 hs he ok
  obtain ⟨KD, hKD⟩ : ∃ z2, keptB (afterT z) b = z2 := ⟨_, rfl⟩
  obtain ⟨L, hL⟩ : ∃ z, entsB b = z := ⟨_, rfl⟩
  rw [hKD] at K3 R3 HKR
  rw [hL] at K1 K2 K4 R1 R2 R4 HSE HAL HPR
  clear hKD hL
  obtain ⟨ra, rc, ⟨⟨m1, m2, m3⟩, ml⟩, rs⟩ := x
  obtain ⟨lim, mem, runs⟩ := b
  obtain ⟨n, hn⟩ : ∃ n, rs.length = n := ⟨_, rfl⟩
  have hbv : bufV ⟨lim, mem, runs⟩ ⟨ra, rc, ((m1, m2, m3), ml), rs⟩ = .agg #[.int .i64 lim, .slice m1 m2 m3, .slice ra n rc] := by rw [← hn]; rfl
  rw [hbv] at K1 K2 K3 K4 K5 R1 R2 R3 R4 ⊢
  dsimp only at K4 R4 HPR
  clear hbv hn
  have hb0 : Below w.heap.size w (w.alloc (.cells #[.int .i64 lim, .slice m1 m2 m3, .slice ra n rc] 25)) := (Below.refl _ _).alloc (Nat.le_refl _) _
  go_enter Try.func5, Try.ntmps5
  go_wp2_with (first
    | (go_at_call 20; refine (K1.out _ hb0).mono ?_; rintro e w1 ⟨⟨⟨sa, sn, sc⟩, ess, ls, rfl, hps, hrs, hos⟩, hb1⟩; obtain ⟨hsn, hes, hers⟩ := hdr_len (q1 := sa) (q2 := sn) (q3 := sc) hos; rw [show hdV (sa, sn, sc) = .slice sa sn sc from rfl]; have HS : Hid (sn = ls.length ∧ emsAt w1 sa ess ∧ ERs w1 ess ls ∧ ls.Perm (L.filter (inScan key a z)) ∧ Rise ls) := ⟨hsn, hes, hers, hps, hrs⟩; clear hsn hes hers hps hrs hos; have hw1 : Below w.heap.size w w1 := hb0.trans (hb1.mono hb0.size); have a0 : w1.cell? ⟨w.heap.size, 0, none⟩ = some (.int .i64 lim) := cell_later hb1 (by go_simp); have a1 : w1.cell? ⟨w.heap.size, 1, none⟩ = some (.slice m1 m2 m3) := cell_later hb1 (by go_simp); have a2 : w1.cell? ⟨w.heap.size, 2, none⟩ = some (.slice ra n rc) := cell_later hb1 (by go_simp))
    | (go_at_call 21; refine (K2.out _ hw1).mono ?_; rintro e w2 ⟨⟨⟨aa, an, ac⟩, esa, la, rfl, hpa, hra, hoa⟩, hb2⟩; obtain ⟨han, hea, hera⟩ := hdr_len (q1 := aa) (q2 := an) (q3 := ac) hoa; rw [show hdV (aa, an, ac) = .slice aa an ac from rfl]; have HA : Hid (an = la.length ∧ emsAt w2 aa esa ∧ ERs w2 esa la ∧ la.Perm L ∧ Rise la) := ⟨han, hea, hera, hpa, hra⟩; clear han hea hera hpa hra hoa; have hw2 : Below w.heap.size w w2 := hw1.trans (hb2.mono hw1.size); have b0 := cell_later hb2 a0; have b1 := cell_later hb2 a1; have b2 := cell_later hb2 a2)
    | (go_at_call 22; refine (K3.out _ hw2).mono ?_; rintro e w3 ⟨⟨⟨da, dc, ⟨⟨e1, e2, e3⟩, dl⟩, ds⟩, rfl, hod⟩, hb3⟩; obtain ⟨dn, hdn⟩ : ∃ z, ds.length = z := ⟨_, rfl⟩; have HDV : Hid (bufV KD ⟨da, dc, ((e1, e2, e3), dl), ds⟩ = .agg #[.int .i64 KD.lim, .slice e1 e2 e3, .slice da dn dc]) := (by show _ = _; rw [← hdn]; rfl); rw [HDV.out]; have HOD : Hid (bufAt w3 KD ⟨da, dc, ((e1, e2, e3), dl), ds⟩) := hod.at; clear hod hdn; have hw3 : Below w.heap.size w w3 := hw2.trans (hb3.mono hw2.size); have c0 := cell_later hb3 b0; have c1 := cell_later hb3 b1; have c2 := cell_later hb3 b2; have l3 : w.heap.size < w3.heap.size := World.block_lt_of_cell? _ _ c0; have hw3' : Below w.heap.size w (w3.alloc (.cells #[.int .i64 KD.lim, .slice e1 e2 e3, .slice da dn dc] 25)) := hw3.alloc hw3.size _)
    | (go_at_call 23; refine (K4.out _ hw3').mono ?_; rintro e w4 ⟨⟨⟨pa, pc, ⟨⟨p1, p2, p3⟩, pl⟩, ps⟩, lp, rfl, hpp, hrp, hop⟩, hb4⟩; obtain ⟨pn, hpn⟩ : ∃ z, ps.length = z := ⟨_, rfl⟩; have HPV : Hid (bufV (packB lim lp) ⟨pa, pc, ((p1, p2, p3), pl), ps⟩ = .agg #[.int .i64 lim, .slice p1 p2 p3, .slice pa pn pc]) := (by show _ = _; rw [← hpn]; rfl); rw [HPV.out]; have HOP : Hid (bufAt w4 (packB lim lp) ⟨pa, pc, ((p1, p2, p3), pl), ps⟩ ∧ lp.Perm L ∧ Rise lp) := ⟨hop.at, hpp, hrp⟩; clear hop hpp hrp hpn; have hw4 : Below w.heap.size w w4 := hw3'.trans (hb4.mono hw3'.size); have d0 : w4.cell? ⟨w.heap.size, 0, none⟩ = some (.int .i64 lim) := cell_later hb4 (by go_simp); have d1 : w4.cell? ⟨w.heap.size, 1, none⟩ = some (.slice m1 m2 m3) := cell_later hb4 (by go_simp); have d2 : w4.cell? ⟨w.heap.size, 2, none⟩ = some (.slice ra n rc) := cell_later hb4 (by go_simp); have D0 : w4.cell? ⟨w3.heap.size, 0, none⟩ = some (.int .i64 KD.lim) := cell_later hb4 (by go_simp); have D1 : w4.cell? ⟨w3.heap.size, 1, none⟩ = some (.slice e1 e2 e3) := cell_later hb4 (by go_simp); have D2 : w4.cell? ⟨w3.heap.size, 2, none⟩ = some (.slice da dn dc) := cell_later hb4 (by go_simp); have l4 : w.heap.size < w4.heap.size := World.block_lt_of_cell? _ _ d0; have l43 : w3.heap.size < w4.heap.size := World.block_lt_of_cell? _ _ D0; have hw4' : Below w.heap.size w (w4.alloc (.cells #[.int .i64 lim, .slice p1 p2 p3, .slice pa pn pc] 25)) := hw4.alloc hw4.size _)
    | (go_at_call 9; refine (K5.out _ hw4').mono ?_; rintro e w5 ⟨rfl, hb5⟩; have hw5 : Below w.heap.size w w5 := hw4'.trans (hb5.mono hw4'.size); have f0 : w5.cell? ⟨w.heap.size, 0, none⟩ = some (.int .i64 lim) := cell_later hb5 (by go_simp); have f1 : w5.cell? ⟨w.heap.size, 1, none⟩ = some (.slice m1 m2 m3) := cell_later hb5 (by go_simp); have f2 : w5.cell? ⟨w.heap.size, 2, none⟩ = some (.slice ra n rc) := cell_later hb5 (by go_simp); have E0 : w5.cell? ⟨w3.heap.size, 0, none⟩ = some (.int .i64 KD.lim) := cell_later hb5 (by go_simp); have E1 : w5.cell? ⟨w3.heap.size, 1, none⟩ = some (.slice e1 e2 e3) := cell_later hb5 (by go_simp); have E2 : w5.cell? ⟨w3.heap.size, 2, none⟩ = some (.slice da dn dc) := cell_later hb5 (by go_simp); have F0 : w5.cell? ⟨w4.heap.size, 0, none⟩ = some (.int .i64 lim) := cell_later hb5 (by go_simp); have F1 : w5.cell? ⟨w4.heap.size, 1, none⟩ = some (.slice p1 p2 p3) := cell_later hb5 (by go_simp); have F2 : w5.cell? ⟨w4.heap.size, 2, none⟩ = some (.slice pa pn pc) := cell_later hb5 (by go_simp)))
  have hb3a : Below w3.heap.size w3 (w3.alloc (.cells #[.int .i64 KD.lim, .slice e1 e2 e3, .slice da dn dc] 25)) := (Below.refl _ _).alloc (Nat.le_refl _) _
  have hb4a : Below w4.heap.size w4 (w4.alloc (.cells #[.int .i64 lim, .slice p1 p2 p3, .slice pa pn pc] 25)) := (Below.refl _ _).alloc (Nat.le_refl _) _
  have B45 : Below w4.heap.size w4 w5 := hb4a.trans (hb5.mono hb4a.size)
  have B34 : Below w3.heap.size w3 w4 := hb3a.trans (hb4.mono hb3a.size)
  have B35 : Below w3.heap.size w3 w5 := B34.trans (B45.mono B34.size)
  have B25 : Below w2.heap.size w2 w5 := hb3.trans (B35.mono hb3.size)
  have B15 : Below w1.heap.size w1 w5 := hb2.trans (B25.mono hb2.size)
  have HB : Hid (Below w4.heap.size w4 w5 ∧ Below w3.heap.size w3 w5 ∧ Below w2.heap.size w2 w5 ∧ Below w1.heap.size w1 w5 ∧ Below w.heap.size w w5) := ⟨B45, B35, B25, B15, hw5⟩
  clear hb1 hb2 hb3 hb4 hb5 hb3a hb4a B45 B35 B25 B15 B34 a0 a1 a2 b0 b1 b2 c0 c1 c2 d0 d1 d2 D0 D1 D2 hw1 hw2 hw3 hw3' hw4 hw4' hb0
  have HCL : Hid (w.heap.size < w3.heap.size ∧ w3.heap.size < w4.heap.size) := ⟨l3, l43⟩
  go_region_held3 (fun w' => w'.cell? ⟨w.heap.size, 0, none⟩ = some (.int .i64 lim) ∧ w'.cell? ⟨w.heap.size, 1, none⟩ = some (.slice m1 m2 m3) ∧ w'.cell? ⟨w.heap.size, 2, none⟩ = some (.slice ra n rc) ∧ w'.cell? ⟨w3.heap.size, 0, none⟩ = some (.int .i64 KD.lim) ∧ w'.cell? ⟨w3.heap.size, 1, none⟩ = some (.slice e1 e2 e3) ∧ w'.cell? ⟨w3.heap.size, 2, none⟩ = some (.slice da dn dc) ∧ w'.cell? ⟨w4.heap.size, 0, none⟩ = some (.int .i64 lim) ∧ w'.cell? ⟨w4.heap.size, 1, none⟩ = some (.slice p1 p2 p3) ∧ w'.cell? ⟨w4.heap.size, 2, none⟩ = some (.slice pa pn pc)) (first | go_keep | exact ⟨cell_later hQ1 f0, cell_later hQ1 f1, cell_later hQ1 f2, cell_later hQ1 E0, cell_later hQ1 E1, cell_later hQ1 E2, cell_later hQ1 F0, cell_later hQ1 F1, cell_later hQ1 F2⟩ | exact ⟨cell_later hQ2 f0, cell_later hQ2 f1, cell_later hQ2 f2, cell_later hQ2 E0, cell_later hQ2 E1, cell_later hQ2 E2, cell_later hQ2 F0, cell_later hQ2 F1, cell_later hQ2 F2⟩ | exact ⟨cell_later hQ3 f0, cell_later hQ3 f1, cell_later hQ3 f2, cell_later hQ3 E0, cell_later hQ3 E1, cell_later hQ3 E2, cell_later hQ3 F0, cell_later hQ3 F1, cell_later hQ3 F2⟩ | exact ⟨cell_later hQ4 f0, cell_later hQ4 f1, cell_later hQ4 f2, cell_later hQ4 E0, cell_later hQ4 E1, cell_later hQ4 E2, cell_later hQ4 F0, cell_later hQ4 F1, cell_later hQ4 F2⟩ | exact ⟨cell_later hQ5 f0, cell_later hQ5 f1, cell_later hQ5 f2, cell_later hQ5 E0, cell_later hQ5 E1, cell_later hQ5 E2, cell_later hQ5 F0, cell_later hQ5 F1, cell_later hQ5 F2⟩ | exact ⟨cell_later hQ6 f0, cell_later hQ6 f1, cell_later hQ6 f2, cell_later hQ6 E0, cell_later hQ6 E1, cell_later hQ6 E2, cell_later hQ6 F0, cell_later hQ6 F1, cell_later hQ6 F2⟩ | exact ⟨cell_later hQ7 f0, cell_later hQ7 f1, cell_later hQ7 f2, cell_later hQ7 E0, cell_later hQ7 E1, cell_later hQ7 E2, cell_later hQ7 F0, cell_later hQ7 F1, cell_later hQ7 F2⟩ | exact ⟨cell_later hQ8 f0, cell_later hQ8 f1, cell_later hQ8 f2, cell_later hQ8 E0, cell_later hQ8 E1, cell_later hQ8 E2, cell_later hQ8 F0, cell_later hQ8 F1, cell_later hQ8 F2⟩ | exact ⟨cell_later hQ9 f0, cell_later hQ9 f1, cell_later hQ9 f2, cell_later hQ9 E0, cell_later hQ9 E1, cell_later hQ9 E2, cell_later hQ9 F0, cell_later hQ9 F1, cell_later hQ9 F2⟩)
    (first
      | (go_at_call 12; refine (KB.out w5.drew).mono ?_; rintro e x1 ⟨rfl, hq1⟩; have hQ1 : Below w5.heap.size w5 x1 := (Below.refl _ _).drew.trans hq1)
      | (go_at_call 25; refine (R1.out x1 (HB.out.2.2.2.2.trans (hQ1.mono HB.out.2.2.2.2.size))).mono ?_; rintro e x2 ⟨⟨ta, tc, tes, tl, rfl, hta, hte, htp, htr⟩, hq2⟩; have hQ2 : Below w5.heap.size w5 x2 := hQ1.trans (hq2.mono hQ1.size); have KS1 : Hid (Calls Try.prog 24 #[.slice sa sn sc, .slice ta tl.length tc] x2 fun e w' => e = .returned (.bool true) ∧ Below x2.heap.size x2 w') := (by have B := HB.out.2.2.2.1.trans (hQ2.mono HB.out.2.2.2.1.size); rw [HS.out.1]; exact tells_same (emsAt_below HS.out.2.1 B) (HS.out.2.2.1.below B) hta hte HS.out.2.2.2.1 htp HS.out.2.2.2.2 htr (fun y hy => HSE.out y (List.mem_filter.1 hy).1) (Nat.le_trans (List.length_filter_le _ _) HAL.out)))
      | (go_at_call 24; refine KS2.out.mono ?_; rintro e x5 ⟨rfl, hq5⟩; have hQ5 : Below w5.heap.size w5 x5 := hQ4.trans (hq5.mono hQ4.size))
      | (go_at_call 24; refine KS1.out.mono ?_; rintro e x3 ⟨rfl, hq3⟩; have hQ3 : Below w5.heap.size w5 x3 := hQ2.trans (hq3.mono hQ2.size))
      | (go_at_call 26; refine (R2.out x3 (HB.out.2.2.2.2.trans (hQ3.mono HB.out.2.2.2.2.size))).mono ?_; rintro e x4 ⟨⟨ua, uc, ues, ul, rfl, hua, hue, hup, hur⟩, hq4⟩; have hQ4 : Below w5.heap.size w5 x4 := hQ3.trans (hq4.mono hQ3.size); have KS2 : Hid (Calls Try.prog 24 #[.slice aa an ac, .slice ua ul.length uc] x4 fun e w' => e = .returned (.bool true) ∧ Below x4.heap.size x4 w') := (by have B := HB.out.2.2.1.trans (hQ4.mono HB.out.2.2.1.size); rw [HA.out.1]; exact tells_same (emsAt_below HA.out.2.1 B) (HA.out.2.2.1.below B) hua hue HA.out.2.2.2.1 hup HA.out.2.2.2.2 hur HSE.out HAL.out))
      | (go_at_call 27; refine (R3.out x5 (HB.out.2.2.2.2.trans (hQ5.mono HB.out.2.2.2.2.size))).mono ?_; rintro e x6 ⟨⟨⟨ga, gc, ⟨⟨h1, h2, h3⟩, gl⟩, gs⟩, rfl, hog⟩, hq6⟩; obtain ⟨gn, hgn⟩ : ∃ z, gs.length = z := ⟨_, rfl⟩; have HGV : Hid (bufV KD ⟨ga, gc, ((h1, h2, h3), gl), gs⟩ = .agg #[.int .i64 KD.lim, .slice h1 h2 h3, .slice ga gn gc]) := (by show _ = _; rw [← hgn]; rfl); rw [HGV.out]; have hQ6 : Below w5.heap.size w5 x6 := hQ5.trans (hq6.mono hQ5.size); have KS3 : Hid (Calls Try.prog 13 #[.agg #[.int .i64 KD.lim, .slice e1 e2 e3, .slice da dn dc], .agg #[.int .i64 KD.lim, .slice h1 h2 h3, .slice ga gn gc]] x6 fun e w' => e = .returned (.bool true) ∧ Below x6.heap.size x6 w') := (by have B := HB.out.2.1.trans (hQ6.mono HB.out.2.1.size); rw [← HDV.out, ← HGV.out]; exact sameB_eq KD _ _ x6 (bufAt_below HOD.out B) hog.at HKR.out.1 HKR.out.2); clear hgn hog)
      | (go_at_call 13; refine KS4.out.mono ?_; rintro e x9 ⟨rfl, hq9⟩; have hQ9 : Below w5.heap.size w5 x9 := hQ8.trans (hq9.mono hQ8.size))
      | (go_at_call 13; refine KS3.out.mono ?_; rintro e x7 ⟨rfl, hq7⟩; have hQ7 : Below w5.heap.size w5 x7 := hQ6.trans (hq7.mono hQ6.size))
      | (go_at_call 28; refine (R4.out x7 (HB.out.2.2.2.2.trans (hQ7.mono HB.out.2.2.2.2.size))).mono ?_; rintro e x8 ⟨⟨⟨ka, kc, ⟨⟨i1, i2, i3⟩, kl⟩, ks⟩, lq, rfl, hpq, hrq, hoq⟩, hq8⟩; obtain ⟨kn, hkn⟩ : ∃ z, ks.length = z := ⟨_, rfl⟩; have HKV : Hid (bufV (packB lim lq) ⟨ka, kc, ((i1, i2, i3), kl), ks⟩ = .agg #[.int .i64 lim, .slice i1 i2 i3, .slice ka kn kc]) := (by show _ = _; rw [← hkn]; rfl); rw [HKV.out]; have hQ8 : Below w5.heap.size w5 x8 := hQ7.trans (hq8.mono hQ7.size); have KS4 : Hid (Calls Try.prog 13 #[.agg #[.int .i64 lim, .slice p1 p2 p3, .slice pa pn pc], .agg #[.int .i64 lim, .slice i1 i2 i3, .slice ka kn kc]] x8 fun e w' => e = .returned (.bool true) ∧ Below x8.heap.size x8 w') := (by have B := HB.out.1.trans (hQ8.mono HB.out.1.size); have elq : lq = lp := rise_one (hpq.trans HOP.out.2.1.symm) hrq HOP.out.2.2; rw [← HPV.out, ← HKV.out, elq]; rw [elq] at hoq; exact sameB_eq (packB lim lp) _ _ x8 (bufAt_below HOP.out.1 B) hoq.at (HPR.out lp HOP.out.2.1).1 (HPR.out lp HOP.out.2.1).2); clear hkn hoq hpq hrq))
  all_goals
    go_wp2
    go_ret
    exact ⟨rfl, HB.out.2.2.2.2.trans (hQ9.mono HB.out.2.2.2.2.size)⟩
theorem tells_walk (b : Buf) (x : BX) (key : ByteArray) (a z : Int) (w : World) (h : bufAt w b x) (hw : ∀ y ∈ entsB b, wfE y ∧ wfP (plOf y) ∧ y.key.size ≤ 140737488355328 ∧ y.row.length ≤ 2000000) (hs : (entsB b).length ≤ 4611686018427387904) :
    Calls Try.prog 5 #[bufV b x, .string key, .int .i64 a, .int .i64 z] w fun e w' => e = .returned (.bool true) ∧ Below w.heap.size w w' := by
  by_cases he : errB b = 0
  · exact tells_ok b x key a z w h hw hs he
  · exact tells_bad b x key a z w h hw hs he
end Go.Proofs.Ytnfknkihiapgiaa.bf
