/- Every at entries and at runs; partRight, holdsEmptyRun; the document's ComparePlace, entryFine and rises. -/
import Derived.Test.YtnfknkihiapgiaaBufSize
namespace Go.Proofs.Ytnfknkihiapgiaa.bf
open Go.ChangeShapes Go.WideShapes Go.ChangeAt Go.RowKit
open vl
set_option linter.unusedVariables false
set_option linter.unusedSimpArgs false
theorem skipH {P : Program} {md : Region.Mode} {ops : Array Oper} {Q : Exit → Act → World → Prop} {S : World → Prop} {fuel : Nat} {listed : Array Bool} {a : Act} {w : World} {oi : Oper} (i : Nat) (d : Option Tmp) (hi : ops[i]? = some oi)
    (hs : Region.noSelect ops = true) (hf : Region.free md ops listed i = true) (hr : (Region.ready md ops listed).contains i = true) (hQ : ∀ c a w, Q (.panic c) (a.put oi.dst undef) w → Q (.panic c) a w) (hd : oi.dst = d)
    (hw : Region.wanted oi (yielded ops a.tmps) = false) (hS : S w) (h : wpAnyH P md ops Q S fuel (listed.setIfInBounds i true) (a.put d undef) w) : wpAnyH P md ops Q S (fuel + 1) listed a w :=
  wpAnyH_take hi hs hf hr hQ (Or.inr ⟨hw, rfl⟩) hS (by rw [hd]; exact h)
theorem takeH {P : Program} {md : Region.Mode} {ops : Array Oper} {Q : Exit → Act → World → Prop} {S : World → Prop} {fuel : Nat} {listed : Array Bool} {a : Act} {w : World} {oi : Oper} {v : Value} (i : Nat) (d : Option Tmp) (hi : ops[i]? = some oi)
    (hs : Region.noSelect ops = true) (hf : Region.free md ops listed i = true) (hr : (Region.ready md ops listed).contains i = true) (hQ : ∀ c a w, Q (.panic c) (a.put oi.dst v) w → Q (.panic c) a w) (hd : oi.dst = d)
    (hw : Region.wanted oi (yielded ops a.tmps) = true) (hy : ∀ w, S w → (execOp a.eval oi).run P w = .ok (.value v) w) (hS : S w) (h : wpAnyH P md ops Q S fuel (listed.setIfInBounds i true) (a.put d v) w) : wpAnyH P md ops Q S (fuel + 1) listed a w :=
  wpAnyH_take hi hs hf hr hQ (Or.inl ⟨hw, hy⟩) hS (by rw [hd]; exact h)
/-- is it so at each place? -/
def allB (n : Nat) (P : Nat → Bool) : Bool := (List.range n).all P
theorem allB_iff {n : Nat} {P : Nat → Bool} : allB n P = true ↔ ∀ i, i < n → P i = true := by simp [allB]
theorem allB_no {n : Nat} {P : Nat → Bool} {i : Nat} (hi : i < n) (h : P i = false) : allB n P = false := by
  rcases Bool.eq_false_or_eq_true (allB n P) with h1 | h1
  · have := allB_iff.1 h1 i hi; rw [h] at this; cases this
  · exact h1
set_option maxHeartbeats 1000000 in
theorem everyEnt_any (fn : FuncId) (eg : ∀ args w, (callFunc fn args).run Try.prog w = .ok (.enter fn args) w) (caps : Array Value) (P : Nat → Bool) (a : Option Addr) (cap : Nat) (l : List EM) (w : World) (hl : l.length ≤ 9223372036854775807) (ha : emsAt w a l)
    (H : ∀ i w1, i < l.length → Below w.heap.size w w1 → Calls Try.prog fn (#[.int .i64 (i : Nat), (l.getD i default).val] ++ caps) w1 fun e w' => e = .returned (.bool (P i)) ∧ Below w1.heap.size w1 w') :
    Calls Try.prog 96 #[.slice a l.length cap, .func (.func fn) #[] caps] w fun e w' => e = .returned (.bool (allB l.length P)) ∧ Below w.heap.size w w' := by
  have HH : Hid (∀ i w1, i < l.length → Below w.heap.size w w1 → Calls Try.prog fn (#[.int .i64 (i : Nat), (l.getD i default).val] ++ caps) w1 fun e w' => e = .returned (.bool (P i)) ∧ Below w1.heap.size w1 w') := H
  clear H
  obtain ⟨n, hn⟩ : ∃ n, l.length = n := ⟨_, rfl⟩
  have HN : Hid (l.length = n) := hn
  rw [hn] at hl ⊢
  clear hn
  go_enter Try.func96, Try.ntmps96
  go_wp2
  go_loopw [9] (fun i wr => ∃ k : Nat, k ≤ n ∧ i = .int .i64 k ∧ Below w.heap.size w wr ∧ ∀ i, i < k → P i = true) (fun i _ => n - (intOf i).toNat)
  case atStart => exact ⟨0, Nat.zero_le _, rfl, Below.refl _ _, fun i hi => absurd hi (Nat.not_lt_zero i)⟩
  case round =>
    obtain ⟨k, hk, rfl, hnx, hall⟩ := hrel
    have HA : Hid (∀ i, i < k → P i = true) := hall
    clear hall
    by_cases hlt : k < n
    · obtain ⟨b, o, e, x1, x2, x3, x4, x5⟩ := ha k (by rw [HN.out]; exact hlt)
      subst e
      have q1 := cell_later hnx x1
      have q2 := cell_later hnx x2
      have q3 := cell_later hnx x3
      have q4 := cell_later hnx x4
      have q5 := cell_later hnx x5
      clear x1 x2 x3 x4 x5 ha
      have i1 : (0 : Int) ≤ (k : Int) := by omega
      have i2 : (k : Int) < (n : Int) := by omega
      have KK : Hid (∀ w1, Below wr.heap.size wr w1 → Calls Try.prog fn (#[.int .i64 (k : Nat), (l.getD k default).val] ++ caps) w1 fun e w' => e = .returned (.bool (P k)) ∧ Below w1.heap.size w1 w') := fun w1 hb => HH.out k w1 (by rw [HN.out]; exact hlt) (hnx.trans (hb.mono hnx.size))
      obtain ⟨⟨ek, et, es, ⟨r1, r2, r3⟩, em⟩, hz⟩ : ∃ z, l.getD k default = z := ⟨_, rfl⟩
      rw [hz] at q1 q2 q3 q4 q5 KK
      unfold EM.val hdV at KK
      unfold hdV at q4
      dsimp only at q1 q2 q3 q4 q5 KK
      clear hz
      have hsz := hnx.size
      cases hp : P k with
      | true =>
        rw [hp] at KK
        go_wp2_with (go_at_fn fn; refine (KK.out _ ((Below.refl _ _).alloc (Nat.le_refl _) _)).mono ?_; rintro e w1 ⟨rfl, hb1⟩; have hbx := (hnx.alloc hsz _).trans (hb1.mono (by simp; omega)))
        go_roundw
        case rel => exact ⟨k + 1, by omega, by go_num, hbx, fun i hi => by
          rcases Nat.lt_succ_iff_lt_or_eq.1 hi with h | h
          · exact HA.out i h
          · rw [h]; exact hp⟩
        case measure => simp [intOf]; omega
      | false =>
        have HE : Hid (allB n P = false) := allB_no hlt hp
        rw [hp] at KK
        go_wp2_with (go_at_fn fn; refine (KK.out _ ((Below.refl _ _).alloc (Nat.le_refl _) _)).mono ?_; rintro e w1 ⟨rfl, hb1⟩; have hbx := (hnx.alloc hsz _).trans (hb1.mono (by simp; omega)))
        go_ret
        exact ⟨ret_bool HE.out.symm, hbx⟩
    · have HE : Hid (allB n P = true) := allB_iff.2 (fun i hi => HA.out i (by omega))
      go_wp2
      go_ret
      exact ⟨ret_bool HE.out.symm, hnx⟩
set_option maxHeartbeats 1000000 in
theorem everyRun_any (fn : FuncId) (eg : ∀ args w, (callFunc fn args).run Try.prog w = .ok (.enter fn args) w) (caps : Array Value) (P : Nat → Bool) (a : Option Addr) (cap : Nat) (l : List Hdr) (w : World) (hl : l.length ≤ 9223372036854775807) (ha : hdsAt w a l)
    (H : ∀ i w1, i < l.length → Below w.heap.size w w1 → Calls Try.prog fn (#[.int .i64 (i : Nat), hdV (l.getD i (none, 0, 0))] ++ caps) w1 fun e w' => e = .returned (.bool (P i)) ∧ Below w1.heap.size w1 w') :
    Calls Try.prog 98 #[.slice a l.length cap, .func (.func fn) #[] caps] w fun e w' => e = .returned (.bool (allB l.length P)) ∧ Below w.heap.size w w' := by
  have HH : Hid (∀ i w1, i < l.length → Below w.heap.size w w1 → Calls Try.prog fn (#[.int .i64 (i : Nat), hdV (l.getD i (none, 0, 0))] ++ caps) w1 fun e w' => e = .returned (.bool (P i)) ∧ Below w1.heap.size w1 w') := H
  clear H
  obtain ⟨n, hn⟩ : ∃ n, l.length = n := ⟨_, rfl⟩
  have HN : Hid (l.length = n) := hn
  rw [hn] at hl ⊢
  clear hn
  go_enter Try.func98, Try.ntmps98
  go_wp2
  go_loopw [9] (fun i wr => ∃ k : Nat, k ≤ n ∧ i = .int .i64 k ∧ Below w.heap.size w wr ∧ ∀ i, i < k → P i = true) (fun i _ => n - (intOf i).toNat)
  case atStart => exact ⟨0, Nat.zero_le _, rfl, Below.refl _ _, fun i hi => absurd hi (Nat.not_lt_zero i)⟩
  case round =>
    obtain ⟨k, hk, rfl, hnx, hall⟩ := hrel
    have HA : Hid (∀ i, i < k → P i = true) := hall
    clear hall
    by_cases hlt : k < n
    · obtain ⟨b, o, e, x1⟩ := ha k (by rw [HN.out]; exact hlt)
      subst e
      have q1 := cell_later hnx x1
      clear x1 ha
      have i1 : (0 : Int) ≤ (k : Int) := by omega
      have i2 : (k : Int) < (n : Int) := by omega
      have KK : Hid (Calls Try.prog fn (#[.int .i64 (k : Nat), hdV (l.getD k (none, 0, 0))] ++ caps) wr fun e w' => e = .returned (.bool (P k)) ∧ Below wr.heap.size wr w') := HH.out k wr (by rw [HN.out]; exact hlt) hnx
      obtain ⟨⟨z1, z2, z3⟩, hz⟩ : ∃ z, l.getD k (none, 0, 0) = z := ⟨_, rfl⟩
      rw [hz] at q1 KK
      unfold hdV at q1 KK
      dsimp only at q1 KK
      clear hz
      have hsz := hnx.size
      cases hp : P k with
      | true =>
        rw [hp] at KK
        go_wp2_with (go_at_fn fn; refine KK.out.mono ?_; rintro e w1 ⟨rfl, hb1⟩)
        go_roundw
        case rel => exact ⟨k + 1, by omega, by go_num, hnx.trans (hb1.mono hsz), fun i hi => by
          rcases Nat.lt_succ_iff_lt_or_eq.1 hi with h | h
          · exact HA.out i h
          · rw [h]; exact hp⟩
        case measure => simp [intOf]; omega
      | false =>
        have HE : Hid (allB n P = false) := allB_no hlt hp
        rw [hp] at KK
        go_wp2_with (go_at_fn fn; refine KK.out.mono ?_; rintro e w1 ⟨rfl, hb1⟩)
        go_ret
        exact ⟨ret_bool HE.out.symm, hnx.trans (hb1.mono hsz)⟩
    · have HE : Hid (allB n P = true) := allB_iff.2 (fun i hi => HA.out i (by omega))
      go_wp2
      go_ret
      exact ⟨ret_bool HE.out.symm, hnx⟩
theorem empty1_any (i : Int) (h : Hdr) (w : World) : Calls Try.prog 99 #[.int .i64 i, hdV h] w fun e w' => e = .returned (.bool (decide (0 < h.2.1))) ∧ Below w.heap.size w w' := by
  obtain ⟨z1, z2, z3⟩ := h
  unfold hdV
  dsimp only
  by_cases h0 : 0 < z2
  · have HE : Hid (decide (0 < z2) = true) := decide_eq_true h0
    go_enter Try.func99, Try.ntmps99
    go_wp2
    go_ret
    exact ⟨ret_bool (by rw [HE.out]), Below.refl _ _⟩
  · have HE : Hid (decide (0 < z2) = false) := decide_eq_false h0
    go_enter Try.func99, Try.ntmps99
    go_wp2
    go_ret
    exact ⟨ret_bool (by rw [HE.out]), Below.refl _ _⟩
/-- a part rises at that place -/
noncomputable def riseB (l : List Ent) (i : Nat) : Bool := fineB (l.getD i default) && (decide (i = 0) || decide (ltP (l.getD (i - 1) default) (l.getD i default)))
theorem riseB_bad {l : List Ent} {i : Nat} (h : fineB (l.getD i default) = false) : riseB l i = false := by unfold riseB; rw [h]; rfl
theorem riseB_zero {l : List Ent} (h : fineB (l.getD 0 default) = true) : riseB l 0 = true := by unfold riseB; rw [h]; rfl
theorem riseB_succ {l : List Ent} {i : Nat} (h : fineB (l.getD i default) = true) (hi : i ≠ 0) : riseB l i = decide (ltP (l.getD (i - 1) default) (l.getD i default)) := by
  unfold riseB; rw [h, decide_eq_false hi]; rfl
set_option maxRecDepth 100000 in
set_option maxHeartbeats 8000000 in
theorem part1_any (a : Option Addr) (cap : Nat) (es : List EM) (l : List Ent) (i : Nat) (PB : Nat) (w : World) (hi : i < l.length) (hl : l.length ≤ 9223372036854775807) (hP : w.cell? ⟨PB, 0, none⟩ = some (.slice a l.length cap)) (ha : emsAt w a es) (hr : ERs w es l) (hwf : ∀ x ∈ l, wfE x) :
    Calls Try.prog 97 #[.int .i64 i, (es.getD i default).val, .pointer (some ⟨PB, 0, none⟩)] w fun e w' => e = .returned (.bool (riseB l i)) ∧ Below w.heap.size w w' := by
  have hmem : l.getD i default ∈ l := by simp [List.getD_eq_getElem?_getD, hi]
  have KE : Hid (∀ w1, Below w.heap.size w w1 → Calls Try.prog 30 #[(es.getD i default).val] w1 fun r w' => r = .returned (.bool (fineB (l.getD i default))) ∧ Below w1.heap.size w1 w') := fun w1 hb => entryRight_any _ _ w1 ((hr.2 i hi).below hb) (hwf _ hmem)
  have lP : PB < w.heap.size := World.block_lt_of_cell? _ _ hP
  obtain ⟨n, hn⟩ : ∃ z, l.length = z := ⟨_, rfl⟩
  rw [hn] at hP hl hi
  have HL : Hid (l.length = n) := hn
  have HR : Hid (emsAt w a es ∧ ERs w es l) := ⟨ha, hr⟩
  obtain ⟨e, he⟩ : ∃ z, es.getD i default = z := ⟨_, rfl⟩
  have HEE : Hid (es.getD i default = e) := he
  rw [he] at KE ⊢
  clear hn ha hr hwf hmem he
  obtain ⟨R, hR⟩ : ∃ z, riseB l i = z := ⟨_, rfl⟩
  have HRR : Hid (riseB l i = R) := hR
  rw [hR]
  clear hR
  cases hf : fineB (l.getD i default) with
  | false =>
    have HE : Hid (false = R) := by show _ = _; rw [← HRR.out, riseB_bad hf]
    rw [hf] at KE
    obtain ⟨k1, t1, s1, ⟨a1, b1, c1⟩, m1⟩ := e
    unfold EM.val hdV at KE ⊢
    dsimp only at KE ⊢
    have hb0 : Below w.heap.size w (w.alloc (.cells #[.string k1, .int .i64 t1, .int .i64 s1, .slice a1 b1 c1, .bool m1] 28)) := (Below.refl _ _).alloc (Nat.le_refl _) _
    go_enter Try.func97, Try.ntmps97
    go_wp2
    refine wp_region_held_drew (S := (fun w' => w'.cell? ⟨w.heap.size, 0, none⟩ = some (.string k1) ∧ w'.cell? ⟨w.heap.size, 1, none⟩ = some (.int .i64 t1) ∧ w'.cell? ⟨w.heap.size, 2, none⟩ = some (.int .i64 s1) ∧ w'.cell? ⟨w.heap.size, 3, none⟩ = some (.slice a1 b1 c1) ∧ w'.cell? ⟨w.heap.size, 4, none⟩ = some (.bool m1))) (by kernel_rfl) ⟨by go_simp, by go_simp, by go_simp, by go_simp, by go_simp⟩ (fun hHeld => ?_)
    refine takeH (v := ?_) 0 (some 6) rfl (by kernel_rfl) (by kernel_rfl) (by kernel_rfl) (fun _ _ _ h => h) rfl rfl ?_ hHeld ?_
    rotate_left
    · intro w' hSw; (try dsimp only at hSw); first | (go_simp; done) | (go_simp; with_reducible rfl)
    try simp only [Act.put, List.setIfInBounds_toArray, List.set_cons_zero, List.set_cons_succ]
    refine wpAnyH_ready (rs := [1]) (by kernel_rfl) (by simp) ?_
    refine AllReadyH.cons rfl (fun K hK => ?_) AllReadyH.nil
    go_simp
    refine (KE.out _ hb0.drew).mono ?_
    rintro e w2 ⟨rfl, hb2⟩
    go_wp2_with fail
    refine hK.out _ _ ⟨cell_later hb2 hHeld.1, cell_later hb2 hHeld.2.1, cell_later hb2 hHeld.2.2.1, cell_later hb2 hHeld.2.2.2.1, cell_later hb2 hHeld.2.2.2.2⟩ (fun hHeld => ?_)
    clear hK K
    try simp only [Act.put, List.setIfInBounds_toArray, List.set_cons_zero, List.set_cons_succ]
    refine takeH (v := ?_) 2 (some 8) rfl (by kernel_rfl) (by kernel_rfl) (by kernel_rfl) (fun _ _ _ h => h) rfl rfl ?_ hHeld ?_
    rotate_left
    · intro w' hSw; (try dsimp only at hSw); first | (go_simp; done) | (go_simp; with_reducible rfl)
    try simp only [Act.put, List.setIfInBounds_toArray, List.set_cons_zero, List.set_cons_succ]
    refine skipH 3 (some 9) rfl (by kernel_rfl) (by kernel_rfl) (by kernel_rfl) (fun _ _ _ h => h) rfl rfl hHeld ?_
    try simp only [Act.put, List.setIfInBounds_toArray, List.set_cons_zero, List.set_cons_succ]
    refine skipH 4 (some 10) rfl (by kernel_rfl) (by kernel_rfl) (by kernel_rfl) (fun _ _ _ h => h) rfl rfl hHeld ?_
    try simp only [Act.put, List.setIfInBounds_toArray, List.set_cons_zero, List.set_cons_succ]
    refine skipH 5 (some 11) rfl (by kernel_rfl) (by kernel_rfl) (by kernel_rfl) (fun _ _ _ h => h) rfl rfl hHeld ?_
    try simp only [Act.put, List.setIfInBounds_toArray, List.set_cons_zero, List.set_cons_succ]
    refine skipH 6 (some 12) rfl (by kernel_rfl) (by kernel_rfl) (by kernel_rfl) (fun _ _ _ h => h) rfl rfl hHeld ?_
    try simp only [Act.put, List.setIfInBounds_toArray, List.set_cons_zero, List.set_cons_succ]
    refine skipH 7 (some 13) rfl (by kernel_rfl) (by kernel_rfl) (by kernel_rfl) (fun _ _ _ h => h) rfl rfl hHeld ?_
    try simp only [Act.put, List.setIfInBounds_toArray, List.set_cons_zero, List.set_cons_succ]
    refine skipH 8 (some 14) rfl (by kernel_rfl) (by kernel_rfl) (by kernel_rfl) (fun _ _ _ h => h) rfl rfl hHeld ?_
    try simp only [Act.put, List.setIfInBounds_toArray, List.set_cons_zero, List.set_cons_succ]
    refine skipH 9 (some 15) rfl (by kernel_rfl) (by kernel_rfl) (by kernel_rfl) (fun _ _ _ h => h) rfl rfl hHeld ?_
    try simp only [Act.put, List.setIfInBounds_toArray, List.set_cons_zero, List.set_cons_succ]
    refine skipH 10 (some 16) rfl (by kernel_rfl) (by kernel_rfl) (by kernel_rfl) (fun _ _ _ h => h) rfl rfl hHeld ?_
    try simp only [Act.put, List.setIfInBounds_toArray, List.set_cons_zero, List.set_cons_succ]
    refine skipH 11 (some 17) rfl (by kernel_rfl) (by kernel_rfl) (by kernel_rfl) (fun _ _ _ h => h) rfl rfl hHeld ?_
    try simp only [Act.put, List.setIfInBounds_toArray, List.set_cons_zero, List.set_cons_succ]
    refine skipH 12 (some 18) rfl (by kernel_rfl) (by kernel_rfl) (by kernel_rfl) (fun _ _ _ h => h) rfl rfl hHeld ?_
    try simp only [Act.put, List.setIfInBounds_toArray, List.set_cons_zero, List.set_cons_succ]
    refine skipH 13 (some 19) rfl (by kernel_rfl) (by kernel_rfl) (by kernel_rfl) (fun _ _ _ h => h) rfl rfl hHeld ?_
    try simp only [Act.put, List.setIfInBounds_toArray, List.set_cons_zero, List.set_cons_succ]
    refine skipH 14 (some 20) rfl (by kernel_rfl) (by kernel_rfl) (by kernel_rfl) (fun _ _ _ h => h) rfl rfl hHeld ?_
    try simp only [Act.put, List.setIfInBounds_toArray, List.set_cons_zero, List.set_cons_succ]
    refine takeH (v := ?_) 15 (some 21) rfl (by kernel_rfl) (by kernel_rfl) (by kernel_rfl) (fun _ _ _ h => h) rfl rfl ?_ hHeld ?_
    rotate_left
    · intro w' hSw; (try dsimp only at hSw); first | (go_simp; done) | (go_simp; with_reducible rfl)
    try simp only [Act.put, List.setIfInBounds_toArray, List.set_cons_zero, List.set_cons_succ]
    refine takeH (v := ?_) 16 (some 5) rfl (by kernel_rfl) (by kernel_rfl) (by kernel_rfl) (fun _ _ _ h => h) rfl rfl ?_ hHeld ?_
    rotate_left
    · intro w' hSw; (try dsimp only at hSw); first | (go_simp; done) | (go_simp; with_reducible rfl)
    try simp only [Act.put, List.setIfInBounds_toArray, List.set_cons_zero, List.set_cons_succ]
    refine wpAnyH_done (by kernel_rfl) ?_ _
    go_wp2
    go_ret
    exact ⟨ret_bool HE.out, hb0.drew.trans (hb2.mono hb0.drew.size)⟩
  | true =>
    rw [hf] at KE
    by_cases h0 : i = 0
    · subst h0
      have HE : Hid (true = R) := by show _ = _; rw [← HRR.out, riseB_zero hf]
      obtain ⟨k1, t1, s1, ⟨a1, b1, c1⟩, m1⟩ := e
      unfold EM.val hdV at KE ⊢
      dsimp only at KE ⊢
      have hb0 : Below w.heap.size w (w.alloc (.cells #[.string k1, .int .i64 t1, .int .i64 s1, .slice a1 b1 c1, .bool m1] 28)) := (Below.refl _ _).alloc (Nat.le_refl _) _
      go_enter Try.func97, Try.ntmps97
      go_wp2
      refine wp_region_held_drew (S := (fun w' => w'.cell? ⟨w.heap.size, 0, none⟩ = some (.string k1) ∧ w'.cell? ⟨w.heap.size, 1, none⟩ = some (.int .i64 t1) ∧ w'.cell? ⟨w.heap.size, 2, none⟩ = some (.int .i64 s1) ∧ w'.cell? ⟨w.heap.size, 3, none⟩ = some (.slice a1 b1 c1) ∧ w'.cell? ⟨w.heap.size, 4, none⟩ = some (.bool m1))) (by kernel_rfl) ⟨by go_simp, by go_simp, by go_simp, by go_simp, by go_simp⟩ (fun hHeld => ?_)
      refine takeH (v := ?_) 0 (some 6) rfl (by kernel_rfl) (by kernel_rfl) (by kernel_rfl) (fun _ _ _ h => h) rfl rfl ?_ hHeld ?_
      rotate_left
      · intro w' hSw; (try dsimp only at hSw); first | (go_simp; done) | (go_simp; with_reducible rfl)
      try simp only [Act.put, List.setIfInBounds_toArray, List.set_cons_zero, List.set_cons_succ]
      refine wpAnyH_ready (rs := [1]) (by kernel_rfl) (by simp) ?_
      refine AllReadyH.cons rfl (fun K hK => ?_) AllReadyH.nil
      go_simp
      refine (KE.out _ hb0.drew).mono ?_
      rintro e w2 ⟨rfl, hb2⟩
      go_wp2_with fail
      refine hK.out _ _ ⟨cell_later hb2 hHeld.1, cell_later hb2 hHeld.2.1, cell_later hb2 hHeld.2.2.1, cell_later hb2 hHeld.2.2.2.1, cell_later hb2 hHeld.2.2.2.2⟩ (fun hHeld => ?_)
      clear hK K
      try simp only [Act.put, List.setIfInBounds_toArray, List.set_cons_zero, List.set_cons_succ]
      refine takeH (v := ?_) 2 (some 8) rfl (by kernel_rfl) (by kernel_rfl) (by kernel_rfl) (fun _ _ _ h => h) rfl rfl ?_ hHeld ?_
      rotate_left
      · intro w' hSw; (try dsimp only at hSw); first | (go_simp; done) | (go_simp; with_reducible rfl)
      try simp only [Act.put, List.setIfInBounds_toArray, List.set_cons_zero, List.set_cons_succ]
      refine takeH (v := ?_) 3 (some 9) rfl (by kernel_rfl) (by kernel_rfl) (by kernel_rfl) (fun _ _ _ h => h) rfl rfl ?_ hHeld ?_
      rotate_left
      · intro w' hSw; (try dsimp only at hSw); first | (go_simp; done) | (go_simp; with_reducible rfl)
      try simp only [Act.put, List.setIfInBounds_toArray, List.set_cons_zero, List.set_cons_succ]
      refine takeH (v := ?_) 4 (some 10) rfl (by kernel_rfl) (by kernel_rfl) (by kernel_rfl) (fun _ _ _ h => h) rfl rfl ?_ hHeld ?_
      rotate_left
      · intro w' hSw; (try dsimp only at hSw); first | (go_simp; done) | (go_simp; with_reducible rfl)
      try simp only [Act.put, List.setIfInBounds_toArray, List.set_cons_zero, List.set_cons_succ]
      refine takeH (v := ?_) 5 (some 11) rfl (by kernel_rfl) (by kernel_rfl) (by kernel_rfl) (fun _ _ _ h => h) rfl rfl ?_ hHeld ?_
      rotate_left
      · intro w' hSw; (try dsimp only at hSw); first | (go_simp; done) | (go_simp; with_reducible rfl)
      try simp only [Act.put, List.setIfInBounds_toArray, List.set_cons_zero, List.set_cons_succ]
      refine skipH 6 (some 12) rfl (by kernel_rfl) (by kernel_rfl) (by kernel_rfl) (fun _ _ _ h => h) rfl rfl hHeld ?_
      try simp only [Act.put, List.setIfInBounds_toArray, List.set_cons_zero, List.set_cons_succ]
      refine skipH 7 (some 13) rfl (by kernel_rfl) (by kernel_rfl) (by kernel_rfl) (fun _ _ _ h => h) rfl rfl hHeld ?_
      try simp only [Act.put, List.setIfInBounds_toArray, List.set_cons_zero, List.set_cons_succ]
      refine skipH 8 (some 14) rfl (by kernel_rfl) (by kernel_rfl) (by kernel_rfl) (fun _ _ _ h => h) rfl rfl hHeld ?_
      try simp only [Act.put, List.setIfInBounds_toArray, List.set_cons_zero, List.set_cons_succ]
      refine skipH 9 (some 15) rfl (by kernel_rfl) (by kernel_rfl) (by kernel_rfl) (fun _ _ _ h => h) rfl rfl hHeld ?_
      try simp only [Act.put, List.setIfInBounds_toArray, List.set_cons_zero, List.set_cons_succ]
      refine skipH 10 (some 16) rfl (by kernel_rfl) (by kernel_rfl) (by kernel_rfl) (fun _ _ _ h => h) rfl rfl hHeld ?_
      try simp only [Act.put, List.setIfInBounds_toArray, List.set_cons_zero, List.set_cons_succ]
      refine skipH 11 (some 17) rfl (by kernel_rfl) (by kernel_rfl) (by kernel_rfl) (fun _ _ _ h => h) rfl rfl hHeld ?_
      try simp only [Act.put, List.setIfInBounds_toArray, List.set_cons_zero, List.set_cons_succ]
      refine skipH 12 (some 18) rfl (by kernel_rfl) (by kernel_rfl) (by kernel_rfl) (fun _ _ _ h => h) rfl rfl hHeld ?_
      try simp only [Act.put, List.setIfInBounds_toArray, List.set_cons_zero, List.set_cons_succ]
      refine skipH 13 (some 19) rfl (by kernel_rfl) (by kernel_rfl) (by kernel_rfl) (fun _ _ _ h => h) rfl rfl hHeld ?_
      try simp only [Act.put, List.setIfInBounds_toArray, List.set_cons_zero, List.set_cons_succ]
      refine takeH (v := ?_) 14 (some 20) rfl (by kernel_rfl) (by kernel_rfl) (by kernel_rfl) (fun _ _ _ h => h) rfl rfl ?_ hHeld ?_
      rotate_left
      · intro w' hSw; (try dsimp only at hSw); first | (go_simp; done) | (go_simp; with_reducible rfl)
      try simp only [Act.put, List.setIfInBounds_toArray, List.set_cons_zero, List.set_cons_succ]
      refine takeH (v := ?_) 15 (some 21) rfl (by kernel_rfl) (by kernel_rfl) (by kernel_rfl) (fun _ _ _ h => h) rfl rfl ?_ hHeld ?_
      rotate_left
      · intro w' hSw; (try dsimp only at hSw); first | (go_simp; done) | (go_simp; with_reducible rfl)
      try simp only [Act.put, List.setIfInBounds_toArray, List.set_cons_zero, List.set_cons_succ]
      refine takeH (v := ?_) 16 (some 5) rfl (by kernel_rfl) (by kernel_rfl) (by kernel_rfl) (fun _ _ _ h => h) rfl rfl ?_ hHeld ?_
      rotate_left
      · intro w' hSw; (try dsimp only at hSw); first | (go_simp; done) | (go_simp; with_reducible rfl)
      try simp only [Act.put, List.setIfInBounds_toArray, List.set_cons_zero, List.set_cons_succ]
      refine wpAnyH_done (by kernel_rfl) ?_ _
      go_wp2
      go_ret
      exact ⟨ret_bool HE.out, hb0.drew.trans (hb2.mono hb0.drew.size)⟩
    · obtain ⟨b, o, ea, x1, x2, x3, x4, x5⟩ := HR.out.1 (i - 1) (by rw [HR.out.2.1, HL.out]; omega)
      have KP : Hid (∀ w1, Calls Try.prog 38 #[(es.getD (i - 1) default).val, e.val] w1 fun r w' => r = .returned (.int .i64 (cmpP (l.getD (i - 1) default) (l.getD i default))) ∧ Below w1.heap.size w1 w') := fun w1 => by
        have h1 := HR.out.2.2 (i - 1) (by rw [HL.out]; omega)
        have h2 := HR.out.2.2 i (by rw [HL.out]; omega)
        rw [HEE.out] at h2
        have := byPlace_any (es.getD (i - 1) default) e w1
        rwa [cmpP_ent h1 h2] at this
      have hcm : decide (cmpP (l.getD (i - 1) default) (l.getD i default) < 0) = R := by
        rw [← HRR.out, riseB_succ hf h0]; exact decide_eq_decide.2 cmpP_neg
      obtain ⟨C, hC⟩ : ∃ z, cmpP (l.getD (i - 1) default) (l.getD i default) = z := ⟨_, rfl⟩
      rw [hC] at KP hcm
      subst ea
      obtain ⟨⟨k2, t2, s2, ⟨a2, b2, c2⟩, m2⟩, hz⟩ : ∃ z, es.getD (i - 1) default = z := ⟨_, rfl⟩
      rw [hz] at x1 x2 x3 x4 x5 KP
      obtain ⟨j, hj⟩ : ∃ j, i = j + 1 := ⟨i - 1, by omega⟩
      subst hj
      have hjj : j + 1 - 1 = j := by omega
      rw [hjj] at x1 x2 x3 x4 x5
      obtain ⟨k1, t1, s1, ⟨a1, b1, c1⟩, m1⟩ := e
      unfold EM.val hdV at KE KP ⊢
      unfold hdV at x4
      dsimp only at KE KP x1 x2 x3 x4 x5 ⊢
      have HCM : Hid (decide (C < 0) = R) := hcm
      obtain ⟨I, hI⟩ : ∃ I : Int, ((j + 1 : Nat) : Int) = I := ⟨_, rfl⟩
      have hwr : IntKind.i64.wrap (I - 1) = (j : Int) := by rw [← hI, IntKind.wrap_i64]; omega
      have hz0 : (I == 0) = false := by rw [← hI]; simp; omega
      rw [hI]
      have i1 : (0 : Int) ≤ (j : Int) := by omega
      have i2 : (j : Int) < (n : Int) := by omega
      have lb : b < w.heap.size := World.block_lt_of_cell? _ _ x1
      clear hz hC hcm h0 hjj hI
      have hb0 : Below w.heap.size w (w.alloc (.cells #[.string k1, .int .i64 t1, .int .i64 s1, .slice a1 b1 c1, .bool m1] 28)) := (Below.refl _ _).alloc (Nat.le_refl _) _
      go_enter Try.func97, Try.ntmps97
      go_wp2
      have b0 : (w.alloc (.cells #[.string k1, .int .i64 t1, .int .i64 s1, .slice a1 b1 c1, .bool m1] 28)).cell? ⟨w.heap.size, 0, none⟩ = some (.string k1) := by go_simp
      have b1' : (w.alloc (.cells #[.string k1, .int .i64 t1, .int .i64 s1, .slice a1 b1 c1, .bool m1] 28)).cell? ⟨w.heap.size, 1, none⟩ = some (.int .i64 t1) := by go_simp
      have b2' : (w.alloc (.cells #[.string k1, .int .i64 t1, .int .i64 s1, .slice a1 b1 c1, .bool m1] 28)).cell? ⟨w.heap.size, 2, none⟩ = some (.int .i64 s1) := by go_simp
      have b3' : (w.alloc (.cells #[.string k1, .int .i64 t1, .int .i64 s1, .slice a1 b1 c1, .bool m1] 28)).cell? ⟨w.heap.size, 3, none⟩ = some (.slice a1 b1 c1) := by go_simp
      have b4' : (w.alloc (.cells #[.string k1, .int .i64 t1, .int .i64 s1, .slice a1 b1 c1, .bool m1] 28)).cell? ⟨w.heap.size, 4, none⟩ = some (.bool m1) := by go_simp
      have p0 := cell_later hb0 hP
      have y1 := cell_later hb0 x1
      have y2 := cell_later hb0 x2
      have y3 := cell_later hb0 x3
      have y4 := cell_later hb0 x4
      have y5 := cell_later hb0 x5
      generalize w.alloc (.cells #[.string k1, .int .i64 t1, .int .i64 s1, .slice a1 b1 c1, .bool m1] 28) = V at *
      go_region_held3 (fun w' => w'.cell? ⟨w.heap.size, 0, none⟩ = some (.string k1) ∧ w'.cell? ⟨w.heap.size, 1, none⟩ = some (.int .i64 t1) ∧ w'.cell? ⟨w.heap.size, 2, none⟩ = some (.int .i64 s1) ∧ w'.cell? ⟨w.heap.size, 3, none⟩ = some (.slice a1 b1 c1) ∧ w'.cell? ⟨w.heap.size, 4, none⟩ = some (.bool m1) ∧ w'.cell? ⟨PB, 0, none⟩ = some (.slice (some ⟨b, o, none⟩) n cap) ∧ w'.cell? ⟨b, o + j * 5, none⟩ = some (.string k2) ∧ w'.cell? ⟨b, o + j * 5 + 1, none⟩ = some (.int .i64 t2) ∧ w'.cell? ⟨b, o + j * 5 + 1 + 1, none⟩ = some (.int .i64 s2) ∧ w'.cell? ⟨b, o + j * 5 + 1 + 1 + 1, none⟩ = some (.slice a2 b2 c2) ∧ w'.cell? ⟨b, o + j * 5 + 1 + 1 + 1 + 1, none⟩ = some (.bool m2))
        (first | go_keep | exact ⟨cell_later hbA b0, cell_later hbA b1', cell_later hbA b2', cell_later hbA b3', cell_later hbA b4', cell_later hbA p0, cell_later hbA y1, cell_later hbA y2, cell_later hbA y3, cell_later hbA y4, cell_later hbA y5⟩ | exact ⟨cell_later hbF b0, cell_later hbF b1', cell_later hbF b2', cell_later hbF b3', cell_later hbF b4', cell_later hbF p0, cell_later hbF y1, cell_later hbF y2, cell_later hbF y3, cell_later hbF y4, cell_later hbF y5⟩)
        (first
          | (go_at_call 30; refine (KE.out V.drew hb0.drew).mono ?_; rintro e wA ⟨rfl, hbA0⟩; have hbA : Below V.heap.size V wA := (Below.refl _ _).drew.trans hbA0)
          | (go_at_call 38; refine (KP.out wA).mono ?_; rintro e wF ⟨rfl, hbF0⟩; have hbF : Below V.heap.size V wF := hbA.trans (hbF0.mono hbA.size)))
      all_goals
        go_wp2
        go_ret
        exact ⟨ret_bool HCM.out, hb0.trans (hbF.mono hb0.size)⟩
end Go.Proofs.Ytnfknkihiapgiaa.bf
