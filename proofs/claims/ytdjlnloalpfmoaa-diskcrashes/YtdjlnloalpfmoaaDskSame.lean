/- The document's SameDisks, WriteIn and SyncIn. -/
import Derived.Test.YtdjlnloalpfmoaaDskOwn
namespace Go.Proofs.Ytdjlnloalpfmoaa.dk
open Go.ChangeShapes Go.WideShapes Go.ChangeAt Go.RowKit
set_option linter.unusedVariables false
set_option linter.unusedSimpArgs false
theorem take_eq_succ {r1 r2 : List Slt} {k : Nat} (h1 : k < r1.length) (h2 : k < r2.length) (h : r1.take k = r2.take k) (hk : r1.getD k default = r2.getD k default) : r1.take (k + 1) = r2.take (k + 1) := by
  rw [List.take_succ_eq_append_getElem h1, List.take_succ_eq_append_getElem h2, h]
  simp only [List.getD_eq_getElem?_getD, List.getElem?_eq_getElem h1, List.getElem?_eq_getElem h2, Option.getD_some] at hk
  rw [hk]
set_option maxHeartbeats 2000000 in
theorem same_any (a1 a2 : Option Addr) (c1 c2 : Nat) (r1 r2 : List Slt) (w : World) (h1 : slotsAt w a1 r1) (h2 : slotsAt w a2 r2) (l1 : r1.length ≤ 9223372036854775807) (l2 : r2.length ≤ 9223372036854775807) :
    Calls Try.prog 6 #[diskV a1 r1.length c1, diskV a2 r2.length c2] w fun e w' => e = .returned (.bool (decide (r1 = r2))) ∧ Below w.heap.size w w' := by
  unfold diskV
  by_cases hl : r1.length = r2.length
  · obtain ⟨len, hlen⟩ : ∃ len, r1.length = len := ⟨_, rfl⟩
    have hlen2 : r2.length = len := by omega
    rw [hlen] at l1
    have HR : Hid (r1.length = len) := hlen
    have HR2 : Hid (r2.length = len) := hlen2
    rw [hlen, hlen2]
    clear hl l2 hlen hlen2
    have hb0 : Below w.heap.size w ((w.alloc (.cells #[.slice a1 len c1] 24)).alloc (.cells #[.slice a2 len c2] 24)) := ((Below.refl _ _).alloc (Nat.le_refl _) _).alloc (by simp) _
    have hs0 : ((w.alloc (.cells #[.slice a1 len c1] 24)).alloc (.cells #[.slice a2 len c2] 24)).heap.size = w.heap.size + 1 + 1 := by simp
    have b0 : ((w.alloc (.cells #[.slice a1 len c1] 24)).alloc (.cells #[.slice a2 len c2] 24)).cell? ⟨w.heap.size, 0, none⟩ = some (.slice a1 len c1) := by go_simp
    have b1 : ((w.alloc (.cells #[.slice a1 len c1] 24)).alloc (.cells #[.slice a2 len c2] 24)).cell? ⟨w.heap.size + 1, 0, none⟩ = some (.slice a2 len c2) := by go_simp
    go_enter Try.func6, Try.ntmps6
    go_wp2
    generalize (w.alloc (.cells #[.slice a1 len c1] 24)).alloc (.cells #[.slice a2 len c2] 24) = W0 at *
    go_loopw [5] (fun i wr => ∃ k : Nat, k ≤ len ∧ i = .int .i64 k ∧ Below W0.heap.size W0 wr ∧ r1.take k = r2.take k) (fun i _ => len - (intOf i).toNat)
    case atStart => exact ⟨0, Nat.zero_le _, rfl, Below.refl _ _, rfl⟩
    case round =>
      obtain ⟨k, hk, rfl, hnx0, hall⟩ := hrel
      have HA : Hid (r1.take k = r2.take k) := hall
      have hnx : Below w.heap.size w wr := hb0.trans (hnx0.mono (by omega))
      have d0 := cell_later hnx0 b0
      have d1 := cell_later hnx0 b1
      clear hall
      by_cases hlt : k < len
      · obtain ⟨b1, o1, e1, x1, x2, x3⟩ := h1 k (by rw [HR.out]; exact hlt)
        obtain ⟨b2, o2, e2, y1, y2, y3⟩ := h2 k (by rw [HR2.out]; exact hlt)
        subst e1 e2
        have q1 := cell_later hnx x1
        have q2 := cell_later hnx x2
        have q3 := cell_later hnx x3
        have p1 := cell_later hnx y1
        have p2 := cell_later hnx y2
        have p3 := cell_later hnx y3
        clear x1 x2 x3 y1 y2 y3 h1 h2
        obtain ⟨⟨ka, na, sa⟩, hca⟩ : ∃ c, r1.getD k default = c := ⟨_, rfl⟩
        obtain ⟨⟨kb, nb, sb⟩, hcb⟩ : ∃ c, r2.getD k default = c := ⟨_, rfl⟩
        rw [hca] at q1 q2 q3
        rw [hcb] at p1 p2 p3
        have HCA : Hid (r1.getD k default = ⟨ka, na, sa⟩) := hca
        have HCB : Hid (r2.getD k default = ⟨kb, nb, sb⟩) := hcb
        clear hca hcb
        dsimp only at q1 q2 q3 p1 p2 p3
        have i1 : (0 : Int) ≤ (k : Int) := by omega
        have i2 : (k : Int) < (len : Int) := by omega
        by_cases t1 : ka.toList = kb.toList
        · by_cases t2 : na.toList = nb.toList
          · by_cases t3 : sa = sb
            · have t1' : ka = kb := ByteArray.ext (Array.ext' (by rwa [Lib.toList_data, Lib.toList_data] at t1))
              have t2' : na = nb := ByteArray.ext (Array.ext' (by rwa [Lib.toList_data, Lib.toList_data] at t2))
              clear t1 t2
              subst t1' t2' t3
              go_wp2
              go_quiet (fail)
              go_wp2
              go_roundw
              case rel => exact ⟨k + 1, by omega, by go_num, below_drewN hnx0 _, take_eq_succ (by rw [HR.out]; exact hlt) (by rw [HR2.out]; exact hlt) HA.out (by rw [HCA.out, HCB.out])⟩
              case measure => simp [intOf]; omega
            · have t3' : (sa == sb) = false := by simpa using t3
              have hn : Hid (¬ r1 = r2) := fun h => by
                have e1 := HCA.out
                rw [h, HCB.out] at e1
                cases e1
                exact t3 rfl
              go_wp2
              go_quiet (fail)
              go_wp2
              go_ret
              exact ⟨ret_bool (by rw [decide_eq_false hn.out]), below_drewN hnx _⟩
          · have hn : Hid (¬ r1 = r2) := fun h => by
              have e1 := HCA.out
              rw [h, HCB.out] at e1
              cases e1
              exact t2 rfl
            go_wp2
            go_quiet (fail)
            go_wp2
            go_ret
            exact ⟨ret_bool (by rw [decide_eq_false hn.out]), below_drewN hnx _⟩
        · have hn : Hid (¬ r1 = r2) := fun h => by
            have e1 := HCA.out
            rw [h, HCB.out] at e1
            cases e1
            exact t1 rfl
          go_wp2
          go_quiet (fail)
          go_wp2
          go_ret
          exact ⟨ret_bool (by rw [decide_eq_false hn.out]), below_drewN hnx _⟩
      · have hn : Hid (r1 = r2) := by
          show r1 = r2
          have h := HA.out
          rwa [List.take_of_length_le (by rw [HR.out]; omega), List.take_of_length_le (by rw [HR2.out]; omega)] at h
        go_wp2
        go_ret
        exact ⟨ret_bool (by rw [decide_eq_true hn.out]), hnx⟩
  · have hn : Hid (¬ r1 = r2) := fun h => hl (by rw [h])
    have hl' : ((r1.length : Int) == (r2.length : Int)) = false := by simp; omega
    go_enter Try.func6, Try.ntmps6
    go_wp2
    go_ret
    exact ⟨ret_bool (by rw [decide_eq_false hn.out]), ((Below.refl _ _).alloc (Nat.le_refl _) _).alloc (by simp) _⟩
set_option maxRecDepth 10000 in
set_option maxHeartbeats 4000000 in
theorem writeIn_any (a : Option Addr) (cap : Nat) (l : List Slt) (k : Nat) (t : ByteArray) (w : World) (hl : l.length ≤ 8) (ha : slotsAt w a l) (hk : k < l.length) :
    Calls Try.prog 14 #[diskV a l.length cap, .int .i64 k, .string t] w fun e w' => (∃ ad cp, e = .returned (diskV ad l.length cp) ∧ ownS w' w.heap.size (.slice ad l.length cp) (mapS l (putF k ⟨(l.getD k default).safe, t, true⟩))) ∧ Below w.heap.size w w' := by
  have KO : Hid (∀ x w1, Below w.heap.size w w1 → Calls Try.prog 28 #[diskV a l.length cap, .int .i64 k, Slt.val x] w1 fun e w' => (∃ ad cp, e = .returned (diskV ad l.length cp) ∧ ownS w' w1.heap.size (.slice ad l.length cp) (mapS l (putF k x))) ∧ Below w1.heap.size w1 w') := fun x w1 hb => ownDisk_any a cap l k x w1 hl (slotsAt_below ha hb)
  obtain ⟨b, o, e, x1, x2, x3⟩ := ha k hk
  subst e
  obtain ⟨sa, hz⟩ : ∃ z, (l.getD k default).safe = z := ⟨_, rfl⟩
  rw [hz] at x1 ⊢
  have KO2 : Hid (∀ w1, Below w.heap.size w w1 → Calls Try.prog 28 #[.agg #[.slice (some ⟨b, o, none⟩) l.length cap], .int .i64 k, .agg #[.string sa, .string t, .bool true]] w1 fun e w' => (∃ ad cp, e = .returned (diskV ad l.length cp) ∧ ownS w' w1.heap.size (.slice ad l.length cp) (mapS l (putF k ⟨sa, t, true⟩))) ∧ Below w1.heap.size w1 w') := fun w1 hb => KO.out ⟨sa, t, true⟩ w1 hb
  obtain ⟨R, hR⟩ : ∃ z, mapS l (putF k ⟨sa, t, true⟩) = z := ⟨_, rfl⟩
  obtain ⟨n, hn⟩ : ∃ z, l.length = z := ⟨_, rfl⟩
  rw [hR, hn] at KO2
  rw [hR, hn]
  rw [hn] at hk hl
  have hlt : b < w.heap.size := World.block_lt_of_cell? _ _ x1
  clear hn ha hz hR KO x2 x3
  have i1 : (0 : Int) ≤ (k : Int) := by omega
  have i2 : (k : Int) < (n : Int) := by omega
  unfold diskV at KO2 ⊢
  have hb0 : Below w.heap.size w ((w.alloc (.cells #[.slice (some ⟨b, o, none⟩) n cap] 24)).alloc (.cells #[.slice none 0 0] 24)) := ((Below.refl _ _).alloc (Nat.le_refl _) _).alloc (by simp) _
  have b0 : ((w.alloc (.cells #[.slice (some ⟨b, o, none⟩) n cap] 24)).alloc (.cells #[.slice none 0 0] 24)).cell? ⟨w.heap.size, 0, none⟩ = some (.slice (some ⟨b, o, none⟩) n cap) := by go_simp
  have b1 : ((w.alloc (.cells #[.slice (some ⟨b, o, none⟩) n cap] 24)).alloc (.cells #[.slice none 0 0] 24)).cell? ⟨w.heap.size + 1, 0, none⟩ = some (.slice none 0 0) := by go_simp
  have f1 : ((w.alloc (.cells #[.slice (some ⟨b, o, none⟩) n cap] 24)).alloc (.cells #[.slice none 0 0] 24)).frozen? ⟨w.heap.size + 1, 0, none⟩ = false := by go_simp
  have b2 := cell_later hb0 x1
  have hs0 : ((w.alloc (.cells #[.slice (some ⟨b, o, none⟩) n cap] 24)).alloc (.cells #[.slice none 0 0] 24)).heap.size = w.heap.size + 1 + 1 := by simp
  go_enter Try.func14, Try.ntmps14
  go_wp2
  generalize (w.alloc (.cells #[.slice (some ⟨b, o, none⟩) n cap] 24)).alloc (.cells #[.slice none 0 0] 24) = W0 at *
  have n1 : w.heap.size + 1 ≠ w.heap.size := by omega
  have n2 : w.heap.size + 1 ≠ b := by omega
  go_region_held3 (fun w' => w'.cell? ⟨w.heap.size, 0, none⟩ = some (.slice (some ⟨b, o, none⟩) n cap) ∧ w'.cell? ⟨b, o + k * 3, none⟩ = some (.string sa)) (first | go_keep | exact ⟨cell_later hb2 b0, cell_later hb2 b2⟩ | (refine ⟨?_, ?_⟩ <;> (rw [World.cell?_setCell_far] <;> first | exact n1 | exact n2 | exact cell_later hb2 b0 | exact cell_later hb2 b2)))
    (first | (go_at_call 28; refine (KO2.out W0.drew hb0.drew).mono ?_; rintro e w2 ⟨⟨ad, cp, rfl, hown⟩, hb2⟩; have e0 := cell_later hb2 b1; have ef : w2.frozen? ⟨w.heap.size + 1, 0, none⟩ = false := (by rw [hb2.frozen (p := ⟨w.heap.size + 1, 0, none⟩) (by show w.heap.size + 1 < W0.heap.size; omega)]; exact f1)))
  all_goals
    go_wp2
    have hO2 := ownsRow_setCell_below hown (a := ⟨w.heap.size + 1, 0, none⟩) (by show w.heap.size + 1 < W0.heap.size; omega) (.slice ad n cp)
    have y3 : (w2.setCell ⟨w.heap.size + 1, 0, none⟩ (.slice ad n cp)).cell? ⟨w.heap.size + 1, 0, none⟩ = some (.slice ad n cp) := World.cell?_setCell_same _ _ _ e0
    exact bodyPost_ret (v := .agg #[.slice ad n cp]) (by simp [results, Try.results14, go_sem, y3]) rfl ⟨⟨ad, cp, rfl, World.ownsRow.mono hO2 (by show w.heap.size ≤ W0.heap.size; omega)⟩, (hb0.drew.trans (hb2.mono hb0.drew.size)).setCell (by dsimp only; omega) _⟩
set_option maxRecDepth 10000 in
set_option maxHeartbeats 4000000 in
theorem syncIn_any (a : Option Addr) (cap : Nat) (l : List Slt) (k : Nat) (w : World) (hl : l.length ≤ 8) (ha : slotsAt w a l) (hk : k < l.length) :
    Calls Try.prog 15 #[diskV a l.length cap, .int .i64 k] w fun e w' => (∃ ad cp, e = .returned (diskV ad l.length cp) ∧ ownS w' w.heap.size (.slice ad l.length cp) (mapS l (putF k ⟨readT (l.getD k default), ⟨#[]⟩, false⟩))) ∧ Below w.heap.size w w' := by
  have KR : Hid (∀ w1, Below w.heap.size w w1 → Calls Try.prog 16 #[diskV a l.length cap, .int .i64 k] w1 fun e w' => e = .returned (.string (readT (l.getD k default))) ∧ Below w1.heap.size w1 w') := fun w1 hb => readIn_any a cap l k w1 (by omega) (slotsAt_below ha hb) hk
  obtain ⟨T, hT⟩ : ∃ z, readT (l.getD k default) = z := ⟨_, rfl⟩
  rw [hT] at KR ⊢
  have KO2 : Hid (∀ w1, Below w.heap.size w w1 → Calls Try.prog 28 #[diskV a l.length cap, .int .i64 k, .agg #[.string T, .string ⟨#[]⟩, .bool false]] w1 fun e w' => (∃ ad cp, e = .returned (diskV ad l.length cp) ∧ ownS w' w1.heap.size (.slice ad l.length cp) (mapS l (putF k ⟨T, ⟨#[]⟩, false⟩))) ∧ Below w1.heap.size w1 w') := fun w1 hb => ownDisk_any a cap l k ⟨T, ⟨#[]⟩, false⟩ w1 hl (slotsAt_below ha hb)
  obtain ⟨R, hR⟩ : ∃ z, mapS l (putF k ⟨T, ⟨#[]⟩, false⟩) = z := ⟨_, rfl⟩
  obtain ⟨n, hn⟩ : ∃ z, l.length = z := ⟨_, rfl⟩
  rw [hR, hn] at KO2
  rw [hn] at KR
  rw [hR, hn]
  clear hn ha hT hR
  unfold diskV at KO2 KR ⊢
  have hb0 : Below w.heap.size w ((w.alloc (.cells #[.slice a n cap] 24)).alloc (.cells #[.slice none 0 0] 24)) := ((Below.refl _ _).alloc (Nat.le_refl _) _).alloc (by simp) _
  have b0 : ((w.alloc (.cells #[.slice a n cap] 24)).alloc (.cells #[.slice none 0 0] 24)).cell? ⟨w.heap.size, 0, none⟩ = some (.slice a n cap) := by go_simp
  have b1 : ((w.alloc (.cells #[.slice a n cap] 24)).alloc (.cells #[.slice none 0 0] 24)).cell? ⟨w.heap.size + 1, 0, none⟩ = some (.slice none 0 0) := by go_simp
  have f1 : ((w.alloc (.cells #[.slice a n cap] 24)).alloc (.cells #[.slice none 0 0] 24)).frozen? ⟨w.heap.size + 1, 0, none⟩ = false := by go_simp
  have hs0 : ((w.alloc (.cells #[.slice a n cap] 24)).alloc (.cells #[.slice none 0 0] 24)).heap.size = w.heap.size + 1 + 1 := by simp
  go_enter Try.func15, Try.ntmps15
  go_wp2
  generalize (w.alloc (.cells #[.slice a n cap] 24)).alloc (.cells #[.slice none 0 0] 24) = W0 at *
  have n1 : w.heap.size + 1 ≠ w.heap.size := by omega
  go_region_held3 (fun w' => w'.cell? ⟨w.heap.size, 0, none⟩ = some (.slice a n cap)) (first | go_keep | exact cell_later hb1 b0 | exact cell_later hb2 (cell_later hb1 b0) | (rw [World.cell?_setCell_far] <;> first | exact n1 | exact cell_later hb2 (cell_later hb1 b0)))
    (first
      | (go_at_call 16; refine (KR.out W0.drew hb0.drew).mono ?_; rintro e w1 ⟨rfl, hb1⟩; have hbw := hb0.drew.trans (hb1.mono hb0.drew.size))
      | (go_at_call 28; refine (KO2.out w1 hbw).mono ?_; rintro e w2 ⟨⟨ad, cp, rfl, hown⟩, hb2⟩; have e0 := cell_later hb2 (cell_later hb1 b1); have ef : w2.frozen? ⟨w.heap.size + 1, 0, none⟩ = false := (by have hz := hb1.size; rw [hb2.frozen (p := ⟨w.heap.size + 1, 0, none⟩) (by show w.heap.size + 1 < w1.heap.size; have : W0.heap.size ≤ w1.heap.size := hz; omega), hb1.frozen (p := ⟨w.heap.size + 1, 0, none⟩) (by show w.heap.size + 1 < W0.heap.size; omega)]; exact f1)))
  all_goals
    have hz : W0.heap.size ≤ w1.heap.size := hb1.size
    go_wp2
    have hO2 := ownsRow_setCell_below hown (a := ⟨w.heap.size + 1, 0, none⟩) (by show w.heap.size + 1 < w1.heap.size; omega) (.slice ad n cp)
    have y3 : (w2.setCell ⟨w.heap.size + 1, 0, none⟩ (.slice ad n cp)).cell? ⟨w.heap.size + 1, 0, none⟩ = some (.slice ad n cp) := World.cell?_setCell_same _ _ _ e0
    exact bodyPost_ret (v := .agg #[.slice ad n cp]) (by simp [results, Try.results15, go_sem, y3]) rfl ⟨⟨ad, cp, rfl, World.ownsRow.mono hO2 (by omega)⟩, (hbw.trans (hb2.mono hbw.size)).setCell (by dsimp only; omega) _⟩
end Go.Proofs.Ytdjlnloalpfmoaa.dk
