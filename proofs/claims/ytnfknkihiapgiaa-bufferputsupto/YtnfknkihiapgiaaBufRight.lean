/- partRight, holdsEmptyRun, countsRight, formRight, Check. -/
import Derived.Test.YtnfknkihiapgiaaBufTwice
namespace Go.Proofs.Ytnfknkihiapgiaa.bf
open Go.ChangeShapes Go.WideShapes Go.ChangeAt Go.RowKit Go.Shelf
open vl
set_option linter.unusedVariables false
set_option linter.unusedSimpArgs false
attribute [local go_sem] Oper.semAt_some
/-- a part rises -/
noncomputable def riseL (l : List Ent) : Bool := allB l.length (riseB l)
set_option maxHeartbeats 2000000 in
theorem partRight_any (h : Hdr) (es : List EM) (l : List Ent) (w : World) (hlen : h.2.1 = l.length) (hl : l.length ≤ 9223372036854775807) (ha : emsAt w h.1 es) (hr : ERs w es l) (hwf : ∀ x ∈ l, wfE x) :
    Calls Try.prog 72 #[hdV h] w fun e w' => e = .returned (.bool (riseL l)) ∧ Below w.heap.size w w' := by
  obtain ⟨a, n, c⟩ := h
  unfold hdV
  dsimp only at hlen ha ⊢
  subst hlen
  have KE : Hid (∀ w1, Below w.heap.size w w1 → w1.cell? ⟨w.heap.size, 0, none⟩ = some (.slice a l.length c) → Calls Try.prog 96 #[.slice a l.length c, .func (.func 97) #[] #[.pointer (some ⟨w.heap.size, 0, none⟩)]] w1 fun e w' => e = .returned (.bool (riseL l)) ∧ Below w1.heap.size w1 w') := fun w1 hb hc => by
    have h := everyEnt_any 97 (enters_of Try.func97 (by kernel_rfl) rfl) #[.pointer (some ⟨w.heap.size, 0, none⟩)] (riseB l) a c es w1 (by rw [hr.1]; exact hl) (emsAt_below ha hb) (fun i w2 hi hb2 => part1_any a c es l i w.heap.size w2 (by rw [hr.1] at hi; exact hi) hl (cell_later hb2 hc) (emsAt_below (emsAt_below ha hb) hb2) ((hr.below hb).below hb2) hwf)
    rw [hr.1] at h
    exact h
  obtain ⟨n, hn⟩ : ∃ z, l.length = z := ⟨_, rfl⟩
  rw [hn] at KE ⊢
  clear ha hr hwf hn hl
  obtain ⟨R, hR⟩ : ∃ z, riseL l = z := ⟨_, rfl⟩
  rw [hR] at KE ⊢
  clear hR
  have hb0 : Below w.heap.size w (w.alloc (.cells #[.slice a n c] 22)) := (Below.refl _ _).alloc (Nat.le_refl _) _
  go_enter Try.func72, Try.ntmps72
  go_wp2_with (go_at_call 96; refine (KE.out _ hb0 (by go_simp)).mono ?_; rintro e w2 ⟨rfl, hb2⟩)
  go_ret
  exact ⟨rfl, hb0.trans (hb2.mono hb0.size)⟩
/-- no run is empty -/
def fullB (b : Buf) : Bool := allB b.runs.length fun i => decide (0 < (b.runs.getD i default).length)
theorem allB_congr {n : Nat} {P Q : Nat → Bool} (h : ∀ i, i < n → P i = Q i) : allB n P = allB n Q := by
  rcases Bool.eq_false_or_eq_true (allB n Q) with h1 | h1
  · rw [h1]; exact allB_iff.2 (fun i hi => by rw [h i hi]; exact allB_iff.1 h1 i hi)
  · rw [h1]
    rcases Bool.eq_false_or_eq_true (allB n P) with h2 | h2
    · have : allB n Q = true := allB_iff.2 (fun i hi => by rw [← h i hi]; exact allB_iff.1 h2 i hi)
      rw [h1] at this; cases this
    · exact h2
set_option maxHeartbeats 2000000 in
theorem holdsEmptyRun_any (b : Buf) (x : BX) (w : World) (h : bufAt w b x) :
    Calls Try.prog 73 #[bufV b x] w fun e w' => e = .returned (.bool (!fullB b)) ∧ Below w.heap.size w w' := by
  have KE : Hid (∀ w1, Below w.heap.size w w1 → Calls Try.prog 98 #[.slice x.ra x.rs.length x.rc, .func (.func 99) #[] #[]] w1 fun e w' => e = .returned (.bool (fullB b)) ∧ Below w1.heap.size w1 w') := fun w1 hb => by
    have hl : (x.rs.map (·.1)).length = x.rs.length := List.length_map ..
    have k := everyRun_any 99 (enters_of Try.func99 (by kernel_rfl) rfl) #[] (fun i => decide (0 < ((x.rs.map (·.1)).getD i (none, 0, 0)).2.1)) x.ra x.rc (x.rs.map (·.1)) w1 (by rw [hl]; exact h.few) (hdsAt_below h.hds hb) (fun i w2 hi hb2 => by rw [Array.append_empty]; exact empty1_any _ _ w2)
    have e : allB (x.rs.map (·.1)).length (fun i => decide (0 < ((x.rs.map (·.1)).getD i (none, 0, 0)).2.1)) = fullB b := by
      unfold fullB
      rw [hl, h.rlen]
      refine allB_congr (fun i hi => ?_)
      have hi2 : i < x.rs.length := by rw [h.rlen]; exact hi
      have h1 := (h.runs i hi).1
      have h2 := (h.len (x.rs[i]) (List.mem_cons_of_mem _ (List.getElem_mem hi2))).1
      have e1 : (x.rs.map (·.1)).getD i (none, 0, 0) = (x.rs[i]).1 := by rw [List.getD_eq_getElem?_getD, List.getElem?_map, List.getElem?_eq_getElem hi2]; rfl
      have e2 : x.rs.getD i default = x.rs[i] := by rw [List.getD_eq_getElem?_getD, List.getElem?_eq_getElem hi2]; rfl
      rw [e2] at h1
      rw [e1, h2, h1]
    rw [e, hl] at k
    exact k
  obtain ⟨R, hR⟩ : ∃ z, fullB b = z := ⟨_, rfl⟩
  rw [hR] at KE ⊢
  clear hR h
  obtain ⟨ra, rc, ⟨⟨m1, m2, m3⟩, ml⟩, rs⟩ := x
  obtain ⟨lim, mem, runs⟩ := b
  unfold bufV hdV
  dsimp only at KE ⊢
  obtain ⟨n, hn⟩ : ∃ n, rs.length = n := ⟨_, rfl⟩
  rw [hn] at KE ⊢
  clear hn
  have hb0 : Below w.heap.size w (w.alloc (.cells #[.int .i64 lim, .slice m1 m2 m3, .slice ra n rc] 25)) := (Below.refl _ _).alloc (Nat.le_refl _) _
  go_enter Try.func73, Try.ntmps73
  go_wp2_with (go_at_call 98; refine (KE.out _ hb0).mono ?_; rintro e w2 ⟨rfl, hb2⟩)
  go_ret
  exact ⟨rfl, hb0.trans (hb2.mono hb0.size)⟩
/-- neither memory nor all together are too many -/
def countB (b : Buf) : Bool := decide ((b.mem.length : Int) ≤ b.lim) && decide ((entsB b).length ≤ 4096)
set_option maxHeartbeats 2000000 in
theorem countsRight_any (b : Buf) (x : BX) (w : World) (h : bufAt w b x) (hs : (entsB b).length ≤ 4611686018427387904) :
    Calls Try.prog 46 #[bufV b x] w fun e w' => e = .returned (.bool (countB b)) ∧ Below w.heap.size w w' := by
  have KS : Hid (∀ w1, Below w.heap.size w w1 → Calls Try.prog 33 #[bufV b x] w1 fun e w' => e = .returned (.int .i64 (entsB b).length) ∧ Below w1.heap.size w1 w') := fun w1 hb => size_any b x w1 (bufAt_below h hb) hs
  have hm : x.m.1.2.1 = b.mem.length := (h.len x.m (List.mem_cons_self ..)).1.trans h.mem.1
  obtain ⟨R, hR⟩ : ∃ z, countB b = z := ⟨_, rfl⟩
  have HRR : Hid (countB b = R) := hR
  rw [hR]
  clear hR h
  obtain ⟨ra, rc, ⟨⟨m1, m2, m3⟩, ml⟩, rs⟩ := x
  obtain ⟨lim, mem, runs⟩ := b
  unfold bufV hdV at KS ⊢
  dsimp only at KS HRR hm ⊢
  obtain ⟨n, hn⟩ : ∃ n, rs.length = n := ⟨_, rfl⟩
  rw [hn] at KS ⊢
  clear hn
  obtain ⟨N, hN⟩ : ∃ z, (entsB ⟨lim, mem, runs⟩).length = z := ⟨_, rfl⟩
  rw [hN] at KS
  have HR2 : Hid ((decide ((m2 : Int) ≤ lim) && decide (N ≤ 4096)) = R) := by
    show _ = _
    rw [← HRR.out]; unfold countB; rw [hN, hm]
  clear hN HRR hm hs
  have hb0 : Below w.heap.size w (w.alloc (.cells #[.int .i64 lim, .slice m1 m2 m3, .slice ra n rc] 25)) := (Below.refl _ _).alloc (Nat.le_refl _) _
  by_cases h1 : (m2 : Int) ≤ lim
  · by_cases h2 : N ≤ 4096
    · have HE : Hid (true = R) := by show _ = _; rw [← HR2.out]; simp [h1, h2]
      have h2' : (N : Int) ≤ 4096 := by omega
      go_enter Try.func46, Try.ntmps46
      go_wp2_with (go_at_call 33; refine (KS.out _ hb0).mono ?_; rintro e w2 ⟨rfl, hb2⟩)
      go_ret
      exact ⟨ret_bool HE.out, hb0.trans (hb2.mono hb0.size)⟩
    · have HE : Hid (false = R) := by show _ = _; rw [← HR2.out]; simp [h2]
      have h2' : ¬ (N : Int) ≤ 4096 := by omega
      have H2 : Hid (¬ (N : Int) ≤ 4096) := h2'
      go_enter Try.func46, Try.ntmps46
      go_wp2_with (go_at_call 33; refine (KS.out _ hb0).mono ?_; rintro e w2 ⟨rfl, hb2⟩)
      go_ret
      exact ⟨ret_bool ((decide_eq_false (by have := H2.out; omega)).trans HE.out), hb0.trans (hb2.mono hb0.size)⟩
  · have HE : Hid (false = R) := by show _ = _; rw [← HR2.out]; simp [h1]
    go_enter Try.func46, Try.ntmps46
    go_wp2
    go_ret
    exact ⟨ret_bool HE.out, hb0⟩
/-- what lies where it should -/
noncomputable def formB (b : Buf) : Bool := allB (partsB b).length (fun i => riseL ((partsB b).getD i default)) && (fullB b && onceB (entsB b))
theorem formB_bad {b : Buf} {i : Nat} (hi : i < (partsB b).length) (h : riseL ((partsB b).getD i default) = false) : formB b = false := by unfold formB; rw [allB_no hi h]; rfl
theorem formB_good {b : Buf} (h : ∀ i, i < (partsB b).length → riseL ((partsB b).getD i default) = true) : formB b = (fullB b && onceB (entsB b)) := by unfold formB; rw [allB_iff.2 h]; rfl
set_option maxHeartbeats 8000000 in
theorem formRight_any (b : Buf) (x : BX) (w : World) (h : bufAt w b x) (hw : ∀ y ∈ entsB b, wfE y ∧ wfP (plOf y)) :
    Calls Try.prog 47 #[bufV b x] w fun e w' => e = .returned (.bool (formB b)) ∧ Below w.heap.size w w' := by
  have HB : Hid (bufAt w b x) := h
  have K1 : Hid (∀ w1, Below w.heap.size w w1 → Calls Try.prog 73 #[bufV b x] w1 fun e w' => e = .returned (.bool (!fullB b)) ∧ Below w1.heap.size w1 w') := fun w1 hb => holdsEmptyRun_any b x w1 (bufAt_below h hb)
  have K2 : Hid (∀ w1, Below w.heap.size w w1 → Calls Try.prog 74 #[bufV b x] w1 fun e w' => e = .returned (.bool (!onceB (entsB b))) ∧ Below w1.heap.size w1 w') := fun w1 hb => twice_any b x w1 (bufAt_below h hb) (fun y hy => (hw y hy).2)
  have KP : Hid (∀ i w1, i < (x.m :: x.rs).length → Below w.heap.size w w1 → Calls Try.prog 72 #[hdV ((x.m :: x.rs).getD i default).1] w1 fun e w' => e = .returned (.bool (riseL ((partsB b).getD i default))) ∧ Below w1.heap.size w1 w') := fun i w1 hi hb => by
    have hmem : (x.m :: x.rs).getD i default ∈ x.m :: x.rs := by rw [List.getD_eq_getElem?_getD, List.getElem?_eq_getElem hi]; exact List.getElem_mem hi
    have hpl : (partsB b).length = (x.m :: x.rs).length := by simp [partsB, h.rlen]
    have hE : ERs w ((x.m :: x.rs).getD i default).2 ((partsB b).getD i default) := by
      cases i with
      | zero => exact h.mem
      | succ i =>
        have hi' : i < b.runs.length := by rw [List.length_cons, h.rlen] at hi; omega
        simpa [partsB] using h.runs i hi'
    have hl := h.len _ hmem
    refine partRight_any _ _ _ w1 (by rw [hl.1, hE.1]) (by rw [← hE.1]; exact hl.2) (emsAt_below (h.ems _ hmem) hb) (hE.below hb) (fun y hy => (hw y ?_).1)
    unfold entsB
    refine List.mem_flatten.2 ⟨_, ?_, hy⟩
    rw [List.getD_eq_getElem?_getD, List.getElem?_eq_getElem (by rw [hpl]; exact hi)]
    exact List.getElem_mem (by rw [hpl]; exact hi)
  have HPL : Hid ((partsB b).length = (x.m :: x.rs).length) := by show _ = _; simp [partsB, h.rlen]
  obtain ⟨R, hR⟩ : ∃ z, formB b = z := ⟨_, rfl⟩
  have HBAD : Hid (∀ i, i < (x.m :: x.rs).length → riseL ((partsB b).getD i default) = false → false = R) := fun i hi hf => by rw [← hR, formB_bad (by rw [HPL.out]; exact hi) hf]
  have HGOOD : Hid ((∀ i, i < (x.m :: x.rs).length → riseL ((partsB b).getD i default) = true) → (fullB b && onceB (entsB b)) = R) := fun hg => by rw [← hR, formB_good (fun i hi => hg i (by rw [← HPL.out]; exact hi))]
  rw [hR]
  clear hR h hw HPL
  obtain ⟨RB, hRB⟩ : ∃ z : Nat → Bool, (fun i => riseL ((partsB b).getD i default)) = z := ⟨_, rfl⟩
  have eRB : ∀ i, riseL ((partsB b).getD i default) = RB i := fun i => congrFun hRB i
  simp only [eRB] at KP HBAD HGOOD
  obtain ⟨G1, hG1⟩ : ∃ z, fullB b = z := ⟨_, rfl⟩
  obtain ⟨G2, hG2⟩ : ∃ z, onceB (entsB b) = z := ⟨_, rfl⟩
  rw [hG1] at K1 HGOOD
  rw [hG2] at K2 HGOOD
  clear hRB eRB hG1 hG2
  obtain ⟨ra, rc, ⟨⟨m1, m2, m3⟩, ml⟩, rs⟩ := x
  obtain ⟨lim, mem, runs⟩ := b
  unfold bufV at K1 K2 ⊢
  dsimp only at KP HBAD HGOOD K1 K2 ⊢
  obtain ⟨n, hn⟩ : ∃ n, rs.length = n := ⟨_, rfl⟩
  have HN : Hid (rs.length = n) := hn
  rw [hn] at K1 K2 ⊢
  clear hn
  have e1 : hdV (m1, m2, m3) = .slice m1 m2 m3 := rfl
  rw [e1] at K1 K2 ⊢
  refine (callsIn_wide (n := 0)).1 ?_
  refine callsIn_of_wp_marks Try.func47 rfl trivial ?_ rfl
  simp only [Try.ntmps47, List.size_toArray, List.length_cons, List.length_nil, Nat.reduceAdd, Nat.reduceSub, Array.replicate_succ, Array.replicate_zero, List.push_toArray, List.append_toArray, List.nil_append, List.cons_append]
  gi_wp2_with (refine ⟨trivial, rfl, ?_⟩; gi_at_call 48; refine (callsIn_wide.2 (parts_any _ _ _ rfl rfl rfl _)).mono ?_; rintro e w' ⟨rfl, rfl⟩)
  have V0 : (((w.alloc (.cells #[.int .i64 lim, .slice m1 m2 m3, .slice ra n rc] 25)).alloc (.cells #[.bool false] 4)).alloc (.cells #[.int .i64 lim, .slice m1 m2 m3, .slice ra n rc] 25)).cell? ⟨w.heap.size, 0, none⟩ = some (.int .i64 lim) := by go_simp
  have V1 : (((w.alloc (.cells #[.int .i64 lim, .slice m1 m2 m3, .slice ra n rc] 25)).alloc (.cells #[.bool false] 4)).alloc (.cells #[.int .i64 lim, .slice m1 m2 m3, .slice ra n rc] 25)).cell? ⟨w.heap.size, 1, none⟩ = some (.slice m1 m2 m3) := by go_simp
  have V2 : (((w.alloc (.cells #[.int .i64 lim, .slice m1 m2 m3, .slice ra n rc] 25)).alloc (.cells #[.bool false] 4)).alloc (.cells #[.int .i64 lim, .slice m1 m2 m3, .slice ra n rc] 25)).cell? ⟨w.heap.size, 2, none⟩ = some (.slice ra n rc) := by go_simp
  have V3 : (((w.alloc (.cells #[.int .i64 lim, .slice m1 m2 m3, .slice ra n rc] 25)).alloc (.cells #[.bool false] 4)).alloc (.cells #[.int .i64 lim, .slice m1 m2 m3, .slice ra n rc] 25)).cell? ⟨w.heap.size + 1, 0, none⟩ = some (.bool false) := by go_simp
  have V4 : (((w.alloc (.cells #[.int .i64 lim, .slice m1 m2 m3, .slice ra n rc] 25)).alloc (.cells #[.bool false] 4)).alloc (.cells #[.int .i64 lim, .slice m1 m2 m3, .slice ra n rc] 25)).frozen? ⟨w.heap.size + 1, 0, none⟩ = false := by go_simp
  have V6 : (((w.alloc (.cells #[.int .i64 lim, .slice m1 m2 m3, .slice ra n rc] 25)).alloc (.cells #[.bool false] 4)).alloc (.cells #[.int .i64 lim, .slice m1 m2 m3, .slice ra n rc] 25)).cell? ⟨w.heap.size + 1 + 1, 1, none⟩ = some (.slice m1 m2 m3) := by go_simp
  have V7 : (((w.alloc (.cells #[.int .i64 lim, .slice m1 m2 m3, .slice ra n rc] 25)).alloc (.cells #[.bool false] 4)).alloc (.cells #[.int .i64 lim, .slice m1 m2 m3, .slice ra n rc] 25)).cell? ⟨w.heap.size + 1 + 1, 2, none⟩ = some (.slice ra n rc) := by go_simp
  have V8 : Below w.heap.size w (((w.alloc (.cells #[.int .i64 lim, .slice m1 m2 m3, .slice ra n rc] 25)).alloc (.cells #[.bool false] 4)).alloc (.cells #[.int .i64 lim, .slice m1 m2 m3, .slice ra n rc] 25)) := by
    repeat (first | exact Below.refl _ _ | (refine Below.alloc ?_ (by simp <;> omega) _))
  have V9 : (((w.alloc (.cells #[.int .i64 lim, .slice m1 m2 m3, .slice ra n rc] 25)).alloc (.cells #[.bool false] 4)).alloc (.cells #[.int .i64 lim, .slice m1 m2 m3, .slice ra n rc] 25)).heap.size = w.heap.size + 1 + 1 + 1 := by simp
  generalize (((w.alloc (.cells #[.int .i64 lim, .slice m1 m2 m3, .slice ra n rc] 25)).alloc (.cells #[.bool false] 4)).alloc (.cells #[.int .i64 lim, .slice m1 m2 m3, .slice ra n rc] 25)) = V at *
  have hit := iter_parts HB.out V8 (w.heap.size + 1 + 1) anyO V6 (by rw [HN.out]; exact V7) names_any (fun _ _ _ => names_any)
  obtain ⟨P, hP⟩ : ∃ z : List Part, (((m1, m2, m3), ml) :: rs) = z := ⟨_, rfl⟩
  dsimp only at hit
  rw [hP] at hit KP HBAD HGOOD
  clear hP
  refine range_law (gf := 75) (lb := #[.pointer (some ⟨w.heap.size + 1 + 1, 0, none⟩)]) rfl (enters_of Try.func75 (by kernel_rfl) rfl) hit (Below.refl _ _) (fun x hx => by obtain ⟨p, _, rfl⟩ := List.mem_map.1 hx; rfl) (fun h k => KeepO.trans h k) (fun W l o o' _ h ho => KeepO.put W l o o' h ho)
    (fun i X => (∀ j, j < i → RB j = true) ∧ KeepO anyO V X ∧ X.frozen? ⟨w.heap.size + 1, 0, none⟩ = false ∧ Below w.heap.size w X) (fun c X => c = .ret ∧ false = R ∧ X.cell? ⟨w.heap.size + 1, 0, none⟩ = some (.bool false) ∧ Below w.heap.size w X)
    (fun i X X' row hs hg hr => ⟨hs.1, hs.2.1.grown hg (fun r e => (hr r e).2), (frozen_kept (hs.2.1.cell names_any V3) hg (fun r e => (hr r e).2)).trans hs.2.2.1, own_low hs.2.2.2 (Nat.le_refl _) (by omega) hg hr⟩)
    (fun c X X' row hs hg hr => ⟨hs.1, hs.2.1, cell_kept hs.2.2.1 hg (fun r e => (hr r e).2), own_low hs.2.2.2 (Nat.le_refl _) (by omega) hg hr⟩)
    ⟨fun j hj => absurd hj (Nat.not_lt_zero j), KeepO.refl _ _, V4, V8⟩
    (fun i a' X => a' = { tmps := #[.agg #[.int .i64 lim, .slice m1 m2 m3, .slice ra n rc], .pointer (some ⟨w.heap.size, 0, none⟩), .pointer (some ⟨w.heap.size + 1, 0, none⟩), hdV (P.getD i default).1, .agg #[.int .i64 lim, .slice m1 m2 m3, .slice ra n rc], .func (.func 75) #[] #[.pointer (some ⟨w.heap.size + 1 + 1, 0, none⟩)], hdV (P.getD i default).1, undef, undef, undef, undef, undef, undef, undef, undef, undef, undef, undef], defers := [] })
    (fun i a' u X X' row hs hg hr => hs) ?assign ?body ?done ?stop
  case assign =>
    intro l' k x X K hx hi hK
    obtain ⟨hk, hxe⟩ := List.getElem?_eq_some_iff.1 hx
    rw [List.length_map] at hk
    rw [List.getElem_map] at hxe
    subst hxe
    have hd : P.getD k default = P[k] := by rw [List.getD_eq_getElem?_getD, List.getElem?_eq_getElem hk]; rfl
    have hK2 := fun W' h1 h2 h3 => hK _ W' h1 h2 h3 rfl
    rw [hd] at hK2
    clear hK hd hx
    obtain ⟨⟨⟨z1, z2, z3⟩, zl⟩, hz⟩ : ∃ z, P[k] = z := ⟨_, rfl⟩
    rw [hz] at hK2 ⊢
    unfold hdV at hK2 ⊢
    dsimp only at hK2 ⊢
    gi_wp2
    exact hK2 X (KeepsFrom.refl _ _) (KeepO.refl _ _) hi
  case body =>
    intro l' i x a' X hx hl' hrec hIi hax
    obtain ⟨j1, j2, j3, j4⟩ := hIi
    obtain ⟨hi, hxe⟩ := List.getElem?_eq_some_iff.1 hx
    rw [List.length_map] at hi
    subst hax
    have KQ : Hid (Calls Try.prog 72 #[hdV (P.getD i default).1] X fun e w' => e = .returned (.bool (RB i)) ∧ Below X.heap.size X w') := KP.out i X hi j4
    have c3 := j2.cell names_any V3
    have lX : w.heap.size + 1 < X.heap.size := World.block_lt_of_cell? _ _ c3
    have HB1 : Hid (RB i = false → false = R) := HBAD.out i hi
    have HJ : Hid ((∀ j, j < i → RB j = true) ∧ KeepO anyO V X) := ⟨j1, j2⟩
    clear hx hxe KP HBAD HGOOD j1 j2
    obtain ⟨⟨⟨z1, z2, z3⟩, zl⟩, hz⟩ : ∃ z, P.getD i default = z := ⟨_, rfl⟩
    rw [hz] at KQ ⊢
    unfold hdV at KQ ⊢
    dsimp only at KQ ⊢
    clear hz
    cases hb : RB i with
    | true =>
      rw [hb] at KQ
      gi_wp2_with (refine ⟨trivial, rfl, ?_⟩; gi_at_call 72; refine (CallsIn.inRound l' (callsIn_wide.2 KQ.out)).mono ?_; rintro e w2 ⟨rfl, hb2⟩)
      exact ⟨kf_below hb2, keep_any hb2 (Nat.le_refl _), fun j hj => by
        rcases Nat.lt_succ_iff_lt_or_eq.1 hj with h | h
        · exact HJ.out.1 j h
        · rw [h]; exact hb, HJ.out.2.trans (keep_any hb2 (Nat.le_refl _)), by rw [hb2.frozen (p := ⟨w.heap.size + 1, 0, none⟩) lX]; exact j3, j4.trans (hb2.mono j4.size)⟩
    | false =>
      rw [hb] at KQ
      gi_wp2_with (refine ⟨trivial, rfl, ?_⟩; gi_at_call 72; refine (CallsIn.inRound l' (callsIn_wide.2 KQ.out)).mono ?_; rintro e w2 ⟨rfl, hb2⟩; have k3 := cell_later hb2 c3; have kf : w2.frozen? ⟨w.heap.size + 1, 0, none⟩ = false := (by rw [hb2.frozen (p := ⟨w.heap.size + 1, 0, none⟩) lX]; exact j3))
      exact ⟨(kf_below hb2).trans ((KeepsOthers.setCell _ _ _).from _), rfl, HB1.out hb, World.cell?_setCell_same _ _ _ k3, (j4.trans (hb2.mono j4.size)).setCell (by dsimp only; omega) _⟩
  case done =>
    rintro D X hD ⟨j1, j2, j3, j4⟩ hK
    rw [List.length_map] at j1
    have HE : Hid ((G1 && G2) = R) := HGOOD.out j1
    have c0 := j2.cell names_any V0
    have c1 := j2.cell names_any V1
    have c2 := j2.cell names_any V2
    have c3 := j2.cell names_any V3
    have lX : w.heap.size + 1 < X.heap.size := World.block_lt_of_cell? _ _ c3
    have lD : D < X.heap.size := (Array.getElem?_eq_some_iff.1 hK).1
    clear j1 HBAD HGOOD KP
    cases hg1 : G1 with
    | false =>
      have HE2 : Hid (false = R) := by show _ = _; rw [← HE.out, hg1]; rfl
      rw [hg1] at K1
      gi_wp2_with (first | (refine ⟨trivial, rfl, ?_⟩; gi_at_call 73; refine (callsIn_wide.2 (K1.out _ j4)).mono ?_; rintro e w2 ⟨rfl, hb2⟩; have k3 := cell_later hb2 c3; have kf : w2.frozen? ⟨w.heap.size + 1, 0, none⟩ = false := (by rw [hb2.frozen (p := ⟨w.heap.size + 1, 0, none⟩) lX]; exact j3)) | refine ⟨trivial, ?_⟩)
      have hK2 : (w2.setCell ⟨w.heap.size + 1, 0, none⟩ (.bool false)).heap[D]? = some (.deferred (some [])) := (heap_setCell_other _ _ _ _ (by dsimp only; omega)).trans ((hb2.block _ lD).trans hK)
      refine ⟨by simp, .inl ⟨_, _, rfl, run_takeDeferred hK2, ?_⟩⟩
      have y3 := put_cell (World.cell?_setCell_same _ _ (.bool false) k3) hK2 rfl (.deferred none)
      exact ⟨.bool false, (by simp [results, Try.results47, go_sem, y3]), ret_bool HE2.out, put_low ((j4.trans (hb2.mono j4.size)).setCell (by dsimp only; omega) _) (by omega) hK2 _⟩
    | true =>
      have HE2 : Hid (G2 = R) := by show _ = _; rw [← HE.out, hg1]; rfl
      rw [hg1] at K1
      gi_wp2_with (first
        | (refine ⟨trivial, rfl, ?_⟩; gi_at_call 73; refine (callsIn_wide.2 (K1.out _ j4)).mono ?_; rintro e w2 ⟨rfl, hb2⟩; have k0 := cell_later hb2 c0; have k1 := cell_later hb2 c1; have k2 := cell_later hb2 c2; have k3 := cell_later hb2 c3; have kf : w2.frozen? ⟨w.heap.size + 1, 0, none⟩ = false := (by rw [hb2.frozen (p := ⟨w.heap.size + 1, 0, none⟩) lX]; exact j3); have j5 := j4.trans (hb2.mono j4.size))
        | (refine ⟨trivial, rfl, ?_⟩; gi_at_call 74; refine (callsIn_wide.2 (K2.out _ j5)).mono ?_; rintro e w3 ⟨rfl, hb3⟩; have u3 := cell_later hb3 k3; have uf : w3.frozen? ⟨w.heap.size + 1, 0, none⟩ = false := (by rw [hb3.frozen (p := ⟨w.heap.size + 1, 0, none⟩) (Nat.lt_of_lt_of_le lX hb2.size)]; exact kf)))
      have hK2 : ∀ v, (w3.setCell ⟨w.heap.size + 1, 0, none⟩ v).heap[D]? = some (.deferred (some [])) := fun v => (heap_setCell_other _ _ _ _ (by dsimp only; omega)).trans ((hb3.block _ (Nat.lt_of_lt_of_le lD hb2.size)).trans ((hb2.block _ lD).trans hK))
      refine ⟨by simp, .inl ⟨_, _, rfl, run_takeDeferred (hK2 _), ?_⟩⟩
      have y3 := put_cell (World.cell?_setCell_same _ _ (.bool G2) u3) (hK2 _) rfl (.deferred none)
      exact ⟨.bool G2, (by simp [results, Try.results47, go_sem, y3]), ret_bool HE2.out, put_low ((j5.trans (hb3.mono j5.size)).setCell (by dsimp only; omega) _) (by omega) (hK2 _) _⟩
  case stop =>
    rintro D c X hD ⟨rfl, hE, c3, j4⟩ hK
    gi_wp2
    refine ⟨by simp, .inl ⟨_, _, rfl, run_takeDeferred hK, ?_⟩⟩
    have y3 := put_cell c3 hK rfl (.deferred none)
    exact ⟨.bool false, (by simp [results, Try.results47, go_sem, y3]), ret_bool hE, put_low j4 (by omega) hK _⟩
/-- what is wrong with a buffer -/
noncomputable def errB (b : Buf) : Int := if betw b.lim 1 64 = false then 3 else if countB b = false then 2 else if formB b = false then 1 else 0
set_option maxHeartbeats 2000000 in
theorem check_any (b : Buf) (x : BX) (w : World) (h : bufAt w b x) (hw : ∀ y ∈ entsB b, wfE y ∧ wfP (plOf y)) (hs : (entsB b).length ≤ 4611686018427387904) :
    Calls Try.prog 14 #[bufV b x] w fun e w' => e = .returned (.int .i64 (errB b)) ∧ Below w.heap.size w w' := by
  have K2 : Hid (∀ w1, Below w.heap.size w w1 → Calls Try.prog 46 #[bufV b x] w1 fun e w' => e = .returned (.bool (countB b)) ∧ Below w1.heap.size w1 w') := fun w1 hb => countsRight_any b x w1 (bufAt_below h hb) hs
  have K3 : Hid (∀ w1, Below w.heap.size w w1 → Calls Try.prog 47 #[bufV b x] w1 fun e w' => e = .returned (.bool (formB b)) ∧ Below w1.heap.size w1 w') := fun w1 hb => formRight_any b x w1 (bufAt_below h hb) hw
  have K1 : Hid (∀ w1, Calls Try.prog 29 #[.int .i64 b.lim] w1 fun e w' => e = .returned (.bool (betw b.lim 1 64)) ∧ w' = w1) := fun w1 => limitRight_any _ w1
  obtain ⟨R, hR⟩ : ∃ z, errB b = z := ⟨_, rfl⟩
  have HRR : Hid ((if betw b.lim 1 64 = false then 3 else if countB b = false then 2 else if formB b = false then 1 else 0) = R) := hR
  rw [hR]
  clear hR h hw hs
  obtain ⟨G1, hG1⟩ : ∃ z, betw b.lim 1 64 = z := ⟨_, rfl⟩
  obtain ⟨G2, hG2⟩ : ∃ z, countB b = z := ⟨_, rfl⟩
  obtain ⟨G3, hG3⟩ : ∃ z, formB b = z := ⟨_, rfl⟩
  rw [hG1] at K1 HRR
  rw [hG2] at K2 HRR
  rw [hG3] at K3 HRR
  clear hG1 hG2 hG3
  obtain ⟨ra, rc, ⟨⟨m1, m2, m3⟩, ml⟩, rs⟩ := x
  obtain ⟨lim, mem, runs⟩ := b
  unfold bufV hdV at K2 K3 ⊢
  dsimp only at K1 K2 K3 ⊢
  obtain ⟨n, hn⟩ : ∃ n, rs.length = n := ⟨_, rfl⟩
  rw [hn] at K2 K3 ⊢
  clear hn
  have hb0 : Below w.heap.size w (w.alloc (.cells #[.int .i64 lim, .slice m1 m2 m3, .slice ra n rc] 25)) := (Below.refl _ _).alloc (Nat.le_refl _) _
  cases G1 with
  | false =>
    have HE : Hid ((3 : Int) = R) := HRR.out
    go_enter Try.func14, Try.ntmps14
    go_wp2_with (go_at_call 29; refine (K1.out _).mono ?_; rintro e w2 ⟨rfl, rfl⟩)
    go_ret
    exact ⟨ret_int HE.out, hb0⟩
  | true =>
    cases G2 with
    | false =>
      have HE : Hid ((2 : Int) = R) := HRR.out
      go_enter Try.func14, Try.ntmps14
      go_wp2_with (first
        | (go_at_call 29; refine (K1.out _).mono ?_; rintro e w2 ⟨rfl, rfl⟩)
        | (go_at_call 46; refine (K2.out _ hb0).mono ?_; rintro e w3 ⟨rfl, hb3⟩))
      go_ret
      exact ⟨ret_int HE.out, hb0.trans (hb3.mono hb0.size)⟩
    | true =>
      cases G3 with
      | false =>
        have HE : Hid ((1 : Int) = R) := HRR.out
        go_enter Try.func14, Try.ntmps14
        go_wp2_with (first
          | (go_at_call 29; refine (K1.out _).mono ?_; rintro e w2 ⟨rfl, rfl⟩)
          | (go_at_call 46; refine (K2.out _ hb0).mono ?_; rintro e w3 ⟨rfl, hb3⟩; have hb4 := hb0.trans (hb3.mono hb0.size); have k0 : w3.cell? ⟨w.heap.size, 0, none⟩ = some (.int .i64 lim) := cell_later hb3 (by go_simp); have k1 : w3.cell? ⟨w.heap.size, 1, none⟩ = some (.slice m1 m2 m3) := cell_later hb3 (by go_simp); have k2 : w3.cell? ⟨w.heap.size, 2, none⟩ = some (.slice ra n rc) := cell_later hb3 (by go_simp))
          | (go_at_call 47; refine (K3.out _ hb4).mono ?_; rintro e w5 ⟨rfl, hb5⟩))
        go_ret
        exact ⟨ret_int HE.out, hb4.trans (hb5.mono hb4.size)⟩
      | true =>
        have HE : Hid ((0 : Int) = R) := HRR.out
        go_enter Try.func14, Try.ntmps14
        go_wp2_with (first
          | (go_at_call 29; refine (K1.out _).mono ?_; rintro e w2 ⟨rfl, rfl⟩)
          | (go_at_call 46; refine (K2.out _ hb0).mono ?_; rintro e w3 ⟨rfl, hb3⟩; have hb4 := hb0.trans (hb3.mono hb0.size); have k0 : w3.cell? ⟨w.heap.size, 0, none⟩ = some (.int .i64 lim) := cell_later hb3 (by go_simp); have k1 : w3.cell? ⟨w.heap.size, 1, none⟩ = some (.slice m1 m2 m3) := cell_later hb3 (by go_simp); have k2 : w3.cell? ⟨w.heap.size, 2, none⟩ = some (.slice ra n rc) := cell_later hb3 (by go_simp))
          | (go_at_call 47; refine (K3.out _ hb4).mono ?_; rintro e w5 ⟨rfl, hb5⟩))
        go_ret
        exact ⟨ret_int HE.out, hb4.trans (hb5.mono hb4.size)⟩
end Go.Proofs.Ytnfknkihiapgiaa.bf
