/- All and Scan: the entries, by rising places. -/
import Derived.Test.YtnfknkihiapgiaaBufSorted
namespace Go.Proofs.Ytnfknkihiapgiaa.bf
open Go.ChangeShapes Go.WideShapes Go.ChangeAt Go.RowKit
open vl
set_option linter.unusedVariables false
set_option linter.unusedSimpArgs false
attribute [local go_sem] Oper.semAt_some
/-- a list, by places that don't fall -/
def byPl (l : List Ent) : Prop := ∀ i j, i < j → j < l.length → ¬ ltP (l.getD j default) (l.getD i default)
set_option maxHeartbeats 2000000 in
theorem all_bad (b : Buf) (x : BX) (w : World) (h : bufAt w b x) (hw : ∀ y ∈ entsB b, wfE y ∧ wfP (plOf y)) (hs : (entsB b).length ≤ 4611686018427387904) (he : errB b ≠ 0) :
    Calls Try.prog 21 #[bufV b x] w fun e w' => e = .returned (.tuple #[.slice none 0 0, .int .i64 (errB b)]) ∧ Below w.heap.size w w' := by
  have KC : Hid (∀ w1, Below w.heap.size w w1 → Calls Try.prog 14 #[bufV b x] w1 fun e w' => e = .returned (.int .i64 (errB b)) ∧ Below w1.heap.size w1 w') := fun w1 hb => check_any b x w1 (bufAt_below h hb) hw hs
  obtain ⟨E, hE⟩ : ∃ z, errB b = z := ⟨_, rfl⟩
  rw [hE] at KC he ⊢
  clear hE h hw hs
  obtain ⟨ra, rc, ⟨⟨m1, m2, m3⟩, ml⟩, rs⟩ := x
  obtain ⟨lim, mem, runs⟩ := b
  unfold bufV hdV at KC ⊢
  dsimp only at KC ⊢
  obtain ⟨n, hn⟩ : ∃ n, rs.length = n := ⟨_, rfl⟩
  rw [hn] at KC ⊢
  clear hn
  have hb0 : Below w.heap.size w (w.alloc (.cells #[.int .i64 lim, .slice m1 m2 m3, .slice ra n rc] 25)) := (Below.refl _ _).alloc (Nat.le_refl _) _
  have hbe : (E != 0) = true := by simpa using he
  go_enter Try.func21, Try.ntmps21
  go_wp2_with (go_at_call 14; refine (KC.out _ hb0).mono ?_; rintro e w2 ⟨rfl, hb2⟩)
  go_ret2
  exact ⟨rfl, hb0.trans (hb2.mono hb0.size)⟩
set_option maxHeartbeats 2000000 in
theorem all_ok (b : Buf) (x : BX) (w : World) (h : bufAt w b x) (hw : ∀ y ∈ entsB b, wfE y ∧ wfP (plOf y)) (hs : (entsB b).length ≤ 4611686018427387904) (he : errB b = 0) :
    Calls Try.prog 21 #[bufV b x] w fun e w' => (∃ (hh : Hdr) (es' : List EM) (l' : List Ent), e = .returned (.tuple #[hdV hh, .int .i64 0]) ∧ l'.Perm (entsB b) ∧ byPl l' ∧ OE w' w.heap.size (hdV hh) es' l') ∧ Below w.heap.size w w' := by
  have KC : Hid (∀ w1, Below w.heap.size w w1 → Calls Try.prog 14 #[bufV b x] w1 fun e w' => e = .returned (.int .i64 0) ∧ Below w1.heap.size w1 w') := fun w1 hb => by
    have := check_any b x w1 (bufAt_below h hb) hw hs
    rwa [he] at this
  have hsm := (okB_of he).small
  have hal := (okB_of he).all
  have KS : Hid (∀ w1, Below w.heap.size w w1 → Calls Try.prog 52 #[bufV b x, .func (.func 35) #[] #[]] w1 fun e w' => (∃ (hh : Hdr) (es' : List EM) (l' : List Ent), e = .returned (hdV hh) ∧ l'.Perm (entsB b) ∧ byPl l' ∧ OE w' w1.heap.size (hdV hh) es' l') ∧ Below w1.heap.size w1 w') := fun w1 hb => by
    have k := sorted_fn 35 (enters_of Try.func35 (by kernel_rfl) rfl) #[] (fun _ => true) b x w1 (bufAt_below h hb) (by omega) hsm.2.2 (fun e y w2 _ _ _ => by rw [Array.append_empty]; exact always_any e w2)
    rw [List.filter_eq_self.2 (fun _ _ => rfl)] at k
    exact k
  clear h hw hs he hsm hal
  obtain ⟨L, hL⟩ : ∃ z, entsB b = z := ⟨_, rfl⟩
  rw [hL] at KS ⊢
  clear hL
  obtain ⟨ra, rc, ⟨⟨m1, m2, m3⟩, ml⟩, rs⟩ := x
  obtain ⟨lim, mem, runs⟩ := b
  rw [show bufV ⟨lim, mem, runs⟩ ⟨ra, rc, ((m1, m2, m3), ml), rs⟩ = .agg #[.int .i64 lim, .slice m1 m2 m3, .slice ra rs.length rc] from rfl] at KC KS ⊢
  obtain ⟨n, hn⟩ : ∃ n, rs.length = n := ⟨_, rfl⟩
  rw [hn] at KC KS ⊢
  clear hn
  have hb0 : Below w.heap.size w (w.alloc (.cells #[.int .i64 lim, .slice m1 m2 m3, .slice ra n rc] 25)) := (Below.refl _ _).alloc (Nat.le_refl _) _
  go_enter Try.func21, Try.ntmps21
  go_wp2_with (first
    | (go_at_call 14; refine (KC.out _ hb0).mono ?_; rintro e w2 ⟨rfl, hb2⟩; have hbw : Below w.heap.size w w2 := hb0.trans (hb2.mono hb0.size); have k0 : w2.cell? ⟨w.heap.size, 0, none⟩ = some (.int .i64 lim) := cell_later hb2 (by go_simp); have k1 : w2.cell? ⟨w.heap.size, 1, none⟩ = some (.slice m1 m2 m3) := cell_later hb2 (by go_simp); have k2 : w2.cell? ⟨w.heap.size, 2, none⟩ = some (.slice ra n rc) := cell_later hb2 (by go_simp))
    | (go_at_call 52; refine (KS.out _ hbw).mono ?_; rintro e w3 ⟨⟨hh, es', l', rfl, hp, hy, hoe⟩, hb3⟩))
  go_ret2
  exact ⟨⟨hh, es', l', rfl, hp, hy, hoe.mono hbw.size⟩, hbw.trans (hb3.mono hbw.size)⟩
/-- the entries of a key, from a time to another -/
def inScan (k : ByteArray) (a z : Int) (y : Ent) : Bool := decide (y.key = k) && (decide (a ≤ y.time) && decide (y.time ≤ z))
set_option maxHeartbeats 2000000 in
theorem scan1_any (e : EM) (k : ByteArray) (a z : Int) (B1 B2 B3 : Nat) (w : World) (h1 : w.cell? ⟨B1, 0, none⟩ = some (.string k)) (h2 : w.cell? ⟨B2, 0, none⟩ = some (.int .i64 a)) (h3 : w.cell? ⟨B3, 0, none⟩ = some (.int .i64 z)) :
    Calls Try.prog 53 #[e.val, .pointer (some ⟨B1, 0, none⟩), .pointer (some ⟨B2, 0, none⟩), .pointer (some ⟨B3, 0, none⟩)] w fun r w' => r = .returned (.bool (decide (e.key = k) && (decide (a ≤ e.time) && decide (e.time ≤ z)))) ∧ Below w.heap.size w w' := by
  obtain ⟨ek, et, es, ⟨r1, r2, r3⟩, em⟩ := e
  unfold EM.val hdV
  dsimp only
  have l1 : B1 < w.heap.size := World.block_lt_of_cell? _ _ h1
  have l2 : B2 < w.heap.size := World.block_lt_of_cell? _ _ h2
  have l3 : B3 < w.heap.size := World.block_lt_of_cell? _ _ h3
  obtain ⟨R, hR⟩ : ∃ z', (decide (ek = k) && (decide (a ≤ et) && decide (et ≤ z))) = z' := ⟨_, rfl⟩
  rw [hR]
  by_cases c1 : ek = k
  · by_cases c2 : a ≤ et
    · by_cases c3 : et ≤ z
      · have HR : Hid (R = true) := by show _ = _; rw [← hR]; simp [c1, c2, c3]
        clear hR
        subst c1
        go_enter Try.func53, Try.ntmps53
        go_wp2
        go_ret
        exact ⟨ret_bool HR.out.symm, (Below.refl _ _).alloc (Nat.le_refl _) _⟩
      · have HR : Hid (R = false) := by show _ = _; rw [← hR]; simp [c3]
        clear hR
        subst c1
        go_enter Try.func53, Try.ntmps53
        go_wp2
        go_ret
        exact ⟨ret_bool HR.out.symm, (Below.refl _ _).alloc (Nat.le_refl _) _⟩
    · have HR : Hid (R = false) := by show _ = _; rw [← hR]; simp [c2]
      clear hR
      subst c1
      go_enter Try.func53, Try.ntmps53
      go_wp2
      go_ret
      exact ⟨ret_bool HR.out.symm, (Below.refl _ _).alloc (Nat.le_refl _) _⟩
  · have HR : Hid (R = false) := by show _ = _; rw [← hR]; simp [c1]
    clear hR
    have t1 : ¬ ek.toList = k.toList := fun e => c1 (by have := bytes_beq ek k; rw [e] at this; simpa using this.symm)
    go_enter Try.func53, Try.ntmps53
    go_wp2
    go_ret
    exact ⟨ret_bool HR.out.symm, (Below.refl _ _).alloc (Nat.le_refl _) _⟩
set_option maxHeartbeats 2000000 in
theorem scan_bad (b : Buf) (x : BX) (k : ByteArray) (a z : Int) (w : World) (h : bufAt w b x) (hw : ∀ y ∈ entsB b, wfE y ∧ wfP (plOf y)) (hs : (entsB b).length ≤ 4611686018427387904) (he : errB b ≠ 0) :
    Calls Try.prog 20 #[bufV b x, .string k, .int .i64 a, .int .i64 z] w fun e w' => e = .returned (.tuple #[.slice none 0 0, .int .i64 (errB b)]) ∧ Below w.heap.size w w' := by
  have KC : Hid (∀ w1, Below w.heap.size w w1 → Calls Try.prog 14 #[bufV b x] w1 fun e w' => e = .returned (.int .i64 (errB b)) ∧ Below w1.heap.size w1 w') := fun w1 hb => check_any b x w1 (bufAt_below h hb) hw hs
  obtain ⟨E, hE⟩ : ∃ z, errB b = z := ⟨_, rfl⟩
  rw [hE] at KC he ⊢
  clear hE h hw hs
  obtain ⟨ra, rc, ⟨⟨m1, m2, m3⟩, ml⟩, rs⟩ := x
  obtain ⟨lim, mem, runs⟩ := b
  unfold bufV hdV at KC ⊢
  dsimp only at KC ⊢
  obtain ⟨n, hn⟩ : ∃ n, rs.length = n := ⟨_, rfl⟩
  rw [hn] at KC ⊢
  clear hn
  have hb0 : Below w.heap.size w ((((w.alloc (.cells #[.int .i64 lim, .slice m1 m2 m3, .slice ra n rc] 25)).alloc (.cells #[.string k] 9)).alloc (.cells #[.int .i64 a] 3)).alloc (.cells #[.int .i64 z] 3)) := by
    repeat (first | exact Below.refl _ _ | (refine Below.alloc ?_ (by simp <;> omega) _))
  have hbe : (E != 0) = true := by simpa using he
  go_enter Try.func20, Try.ntmps20
  go_wp2_with (go_at_call 14; refine (KC.out _ hb0).mono ?_; rintro e w2 ⟨rfl, hb2⟩)
  go_ret2
  exact ⟨rfl, hb0.trans (hb2.mono hb0.size)⟩
set_option maxHeartbeats 2000000 in
theorem scan_ok (b : Buf) (x : BX) (k : ByteArray) (a z : Int) (w : World) (h : bufAt w b x) (hw : ∀ y ∈ entsB b, wfE y ∧ wfP (plOf y)) (hs : (entsB b).length ≤ 4611686018427387904) (he : errB b = 0) :
    Calls Try.prog 20 #[bufV b x, .string k, .int .i64 a, .int .i64 z] w fun e w' => (∃ (hh : Hdr) (es' : List EM) (l' : List Ent), e = .returned (.tuple #[hdV hh, .int .i64 0]) ∧ l'.Perm ((entsB b).filter (inScan k a z)) ∧ byPl l' ∧ OE w' w.heap.size (hdV hh) es' l') ∧ Below w.heap.size w w' := by
  have KC : Hid (∀ w1, Below w.heap.size w w1 → Calls Try.prog 14 #[bufV b x] w1 fun e w' => e = .returned (.int .i64 0) ∧ Below w1.heap.size w1 w') := fun w1 hb => by
    have := check_any b x w1 (bufAt_below h hb) hw hs
    rwa [he] at this
  have hsm := (okB_of he).small
  have hal := (okB_of he).all
  have KS : Hid (∀ w1, Below w.heap.size w w1 → w1.cell? ⟨w.heap.size + 1, 0, none⟩ = some (.string k) → w1.cell? ⟨w.heap.size + 1 + 1, 0, none⟩ = some (.int .i64 a) → w1.cell? ⟨w.heap.size + 1 + 1 + 1, 0, none⟩ = some (.int .i64 z) → Calls Try.prog 52 #[bufV b x, .func (.func 53) #[] #[.pointer (some ⟨w.heap.size + 1, 0, none⟩), .pointer (some ⟨w.heap.size + 1 + 1, 0, none⟩), .pointer (some ⟨w.heap.size + 1 + 1 + 1, 0, none⟩)]] w1 fun e w' => (∃ (hh : Hdr) (es' : List EM) (l' : List Ent), e = .returned (hdV hh) ∧ l'.Perm ((entsB b).filter (inScan k a z)) ∧ byPl l' ∧ OE w' w1.heap.size (hdV hh) es' l') ∧ Below w1.heap.size w1 w') := fun w1 hb c1 c2 c3 =>
    sorted_fn 53 (enters_of Try.func53 (by kernel_rfl) rfl) #[.pointer (some ⟨w.heap.size + 1, 0, none⟩), .pointer (some ⟨w.heap.size + 1 + 1, 0, none⟩), .pointer (some ⟨w.heap.size + 1 + 1 + 1, 0, none⟩)] (inScan k a z) b x w1 (bufAt_below h hb) (by omega) hsm.2.2 (fun e y w2 her _ hb2 => by
      have := scan1_any e k a z (w.heap.size + 1) (w.heap.size + 1 + 1) (w.heap.size + 1 + 1 + 1) w2 (cell_later hb2 c1) (cell_later hb2 c2) (cell_later hb2 c3)
      rw [her.key, her.time] at this
      exact this)
  clear h hw hs he hsm hal
  obtain ⟨L, hL⟩ : ∃ z', (entsB b).filter (inScan k a z) = z' := ⟨_, rfl⟩
  rw [hL] at KS ⊢
  clear hL
  obtain ⟨ra, rc, ⟨⟨m1, m2, m3⟩, ml⟩, rs⟩ := x
  obtain ⟨lim, mem, runs⟩ := b
  rw [show bufV ⟨lim, mem, runs⟩ ⟨ra, rc, ((m1, m2, m3), ml), rs⟩ = .agg #[.int .i64 lim, .slice m1 m2 m3, .slice ra rs.length rc] from rfl] at KC KS ⊢
  obtain ⟨n, hn⟩ : ∃ n, rs.length = n := ⟨_, rfl⟩
  rw [hn] at KC KS ⊢
  clear hn
  have hb0 : Below w.heap.size w ((((w.alloc (.cells #[.int .i64 lim, .slice m1 m2 m3, .slice ra n rc] 25)).alloc (.cells #[.string k] 9)).alloc (.cells #[.int .i64 a] 3)).alloc (.cells #[.int .i64 z] 3)) := by
    repeat (first | exact Below.refl _ _ | (refine Below.alloc ?_ (by simp <;> omega) _))
  go_enter Try.func20, Try.ntmps20
  go_wp2_with (first
    | (go_at_call 14; refine (KC.out _ hb0).mono ?_; rintro e w2 ⟨rfl, hb2⟩; have hbw : Below w.heap.size w w2 := hb0.trans (hb2.mono hb0.size); have k0 : w2.cell? ⟨w.heap.size, 0, none⟩ = some (.int .i64 lim) := cell_later hb2 (by go_simp); have k1 : w2.cell? ⟨w.heap.size, 1, none⟩ = some (.slice m1 m2 m3) := cell_later hb2 (by go_simp); have k2 : w2.cell? ⟨w.heap.size, 2, none⟩ = some (.slice ra n rc) := cell_later hb2 (by go_simp); have k3 : w2.cell? ⟨w.heap.size + 1, 0, none⟩ = some (.string k) := cell_later hb2 (by go_simp); have k4 : w2.cell? ⟨w.heap.size + 1 + 1, 0, none⟩ = some (.int .i64 a) := cell_later hb2 (by go_simp); have k5 : w2.cell? ⟨w.heap.size + 1 + 1 + 1, 0, none⟩ = some (.int .i64 z) := cell_later hb2 (by go_simp))
    | (go_at_call 52; refine (KS.out _ hbw k3 k4 k5).mono ?_; rintro e w3 ⟨⟨hh, es', l', rfl, hp, hy, hoe⟩, hb3⟩))
  go_ret2
  exact ⟨⟨hh, es', l', rfl, hp, hy, hoe.mono hbw.size⟩, hbw.trans (hb3.mono hbw.size)⟩
end Go.Proofs.Ytnfknkihiapgiaa.bf
