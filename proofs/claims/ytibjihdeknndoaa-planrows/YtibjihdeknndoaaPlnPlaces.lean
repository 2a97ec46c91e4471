/- slices.Index, isPlace, placesRight, keysRight, aggsRight. -/
import Derived.Test.YtibjihdeknndoaaPlnJoined
import Derived.Deep.RegionHeld3
namespace Go.Proofs.Ytibjihdeknndoaa.pl
open Go.ChangeShapes Go.WideShapes Go.ChangeAt Go.RowKit
open vl
set_option linter.unusedVariables false
set_option linter.unusedSimpArgs false
/-- where a number first stands; -1: nowhere -/
def idxI (l : List Int) (x : Int) : Int := if l.findIdx (· == x) < l.length then ((l.findIdx (· == x) : Nat) : Int) else -1
theorem idx_at {l : List Int} {x : Int} {k : Nat} (hk : k < l.length) (h : l.getD k 0 = x) (hn : ∀ i, i < k → l.getD i 0 ≠ x) : idxI l x = k := by
  have e : l.findIdx (· == x) = k := by
    rw [List.findIdx_eq hk]
    refine ⟨by simpa [List.getD_eq_getElem?_getD, hk] using h, fun j hj => ?_⟩
    have := hn j hj
    simpa [List.getD_eq_getElem?_getD, show j < l.length by omega] using this
  unfold idxI
  rw [e, if_pos hk]
theorem idx_none {l : List Int} {x : Int} (hn : ∀ i, i < l.length → l.getD i 0 ≠ x) : idxI l x = -1 := by
  unfold idxI
  rw [if_neg]
  intro h
  have h1 := List.findIdx_getElem (w := h)
  have h2 := hn _ h
  simp only [List.getD_eq_getElem?_getD, List.getElem?_eq_getElem h, Option.getD_some] at h2
  exact h2 (by simpa using h1)
set_option maxHeartbeats 1000000 in
theorem index_any (a : Option Addr) (cap : Nat) (l : List Int) (x : Int) (w : World) (hl : l.length ≤ 9223372036854775807) (ha : intsAt w a l) :
    Calls Try.prog 80 #[.slice a l.length cap, .int .i64 x] w fun e w' => e = .returned (.int .i64 (idxI l x)) ∧ w' = w := by
  obtain ⟨n, hn⟩ : ∃ n, l.length = n := ⟨_, rfl⟩
  have HN : Hid (l.length = n) := hn
  rw [hn] at hl ⊢
  clear hn
  go_enter Try.func80, Try.ntmps80
  go_wp2
  go_loop [8] (fun i => ∃ k : Nat, k ≤ n ∧ i = .int .i64 k ∧ ∀ i, i < k → l.getD i 0 ≠ x) (fun i => n - (intOf i).toNat)
  case atStart => exact ⟨0, Nat.zero_le _, rfl, fun i hi => absurd hi (Nat.not_lt_zero i)⟩
  case round =>
    obtain ⟨k, hk, rfl, hall⟩ := hrel
    have HA : Hid (∀ i, i < k → l.getD i 0 ≠ x) := hall
    clear hall
    by_cases hlt : k < n
    · obtain ⟨b, o, e, x1⟩ := ha k (by rw [HN.out]; exact hlt)
      subst e
      clear ha
      have i1 : (0 : Int) ≤ (k : Int) := by omega
      have i2 : (k : Int) < (n : Int) := by omega
      obtain ⟨z, hz⟩ : ∃ z, l.getD k 0 = z := ⟨_, rfl⟩
      have HZ : Hid (l.getD k 0 = z) := hz
      rw [hz] at x1
      clear hz
      by_cases he : x = z
      · subst he
        have HE : Hid (idxI l x = k) := idx_at (by rw [HN.out]; exact hlt) HZ.out HA.out
        go_wp2
        go_ret
        exact ⟨ret_int HE.out.symm, rfl⟩
      · have hb : (x == z) = false := by simpa using he
        have HE : Hid (l.getD k 0 ≠ x) := by show l.getD k 0 ≠ x; rw [HZ.out]; exact fun h => he h.symm
        clear he
        go_wp2
        go_round
        case rel => exact ⟨k + 1, by omega, by go_num, fun i hi => by
          rcases Nat.lt_succ_iff_lt_or_eq.1 hi with h | h
          · exact HA.out i h
          · rw [h]; exact HE.out⟩
        case measure => simp [intOf]; omega
    · have HE : Hid (idxI l x = -1) := idx_none (fun i hi => HA.out i (by rw [HN.out] at hi; omega))
      go_wp2
      go_ret
      exact ⟨ret_int HE.out.symm, rfl⟩
theorem isPlace_any (x : Int) (a : Option Addr) (n cap : Nat) (w : World) (hn : n ≤ 9223372036854775807) :
    Calls Try.prog 79 #[.int .i64 x, .slice a n cap] w fun e w' => e = .returned (.bool (betw x 0 ((n : Int) - 1))) ∧ w' = w := by
  go_enter Try.func79, Try.ntmps79
  go_wp2_with (go_at_call 58; refine (between_any _ _ _ _).mono ?_; rintro e w' ⟨rfl, hw⟩; subst hw)
  go_ret
  exact ⟨rfl, rfl⟩
def placeB (l : List Int) (n : Nat) (i : Nat) : Bool := betw (l.getD i 0) 0 ((n : Int) - 1) && decide (idxI l (l.getD i 0) = i)
theorem getD_get {l : List Int} {i : Nat} (h : i < l.length) : l.getD i 0 = l[i] := by simp [List.getD_eq_getElem?_getD, h]
theorem places_iff (l : List Int) (n : Nat) : decide (placesOk l n) = allB l.length (placeB l n) := by
  refine (dec_bool ?_).symm
  rw [allB_iff]
  unfold placesOk placeB
  simp only [Bool.and_eq_true, betw_iff, decide_eq_true_eq]
  constructor
  · intro h
    refine ⟨(all_getD (Q := fun x : Int => 0 ≤ x ∧ x < (n : Int))).1 (fun i hi => ⟨(h i hi).1.1, by have := (h i hi).1.2; omega⟩), ?_⟩
    rw [List.pairwise_iff_getElem]
    intro i j hi hj hij e
    have h1 := (h i hi).2
    have h2 := (h j hj).2
    rw [getD_get hi] at h1
    rw [getD_get hj, ← e] at h2
    omega
  · intro ⟨h1, h2⟩ i hi
    have h3 := h1 _ (getD_mem (d := 0) hi)
    refine ⟨⟨h3.1, by omega⟩, idx_at hi rfl (fun j hj => ?_)⟩
    rw [List.pairwise_iff_getElem] at h2
    rw [getD_get hi, getD_get (by omega)]
    exact h2 j i (by omega) hi hj
set_option maxHeartbeats 1000000 in
theorem pl1_any (i : Nat) (b1 b2 : Nat) (a1 a2 : Option Addr) (c1 c2 n : Nat) (l : List Int) (w : World) (hl : l.length ≤ 9223372036854775807) (hn : n ≤ 9223372036854775807) (ha : intsAt w a1 l)
    (h2 : w.cell? ⟨b2, 0, none⟩ = some (.slice a2 n c2)) (h1 : w.cell? ⟨b1, 0, none⟩ = some (.slice a1 l.length c1)) :
    Calls Try.prog 78 #[.int .i64 i, .int .i64 (l.getD i 0), .pointer (some ⟨b2, 0, none⟩), .pointer (some ⟨b1, 0, none⟩)] w fun e w' => e = .returned (.bool (placeB l n i)) ∧ Below w.heap.size w w' := by
  have K : Hid (∀ w1 x, intsAt w1 a1 l → Calls Try.prog 80 #[.slice a1 l.length c1, .int .i64 x] w1 fun e w' => e = .returned (.int .i64 (idxI l x)) ∧ w' = w1) := fun w1 x h => index_any a1 c1 l x w1 hl h
  have HB : Hid (placeB l n i = (betw (l.getD i 0) 0 ((n : Int) - 1) && decide (idxI l (l.getD i 0) = i))) := rfl
  obtain ⟨z, hz⟩ : ∃ z, l.getD i 0 = z := ⟨_, rfl⟩
  rw [hz] at HB ⊢
  obtain ⟨m, hm⟩ : ∃ z, l.length = z := ⟨_, rfl⟩
  rw [hm] at K h1
  have HA : Hid (intsAt w a1 l) := ha
  clear hz hm ha hl
  cases hb : betw z 0 ((n : Int) - 1) <;> rw [hb] at HB
  all_goals
    go_enter Try.func78, Try.ntmps78
    go_wp2_with (first
      | (go_at_call 79; refine (isPlace_any _ _ _ _ _ hn).mono ?_; rintro e w' ⟨rfl, hw⟩; subst hw)
      | (go_at_call 80; refine (K.out _ _ HA.out).mono ?_; rintro e w' ⟨rfl, hw⟩; subst hw))
    go_ret
    exact ⟨ret_bool (by rw [HB.out]; exact Bool.eq_iff_iff.2 (by simp)), Below.refl _ _⟩
set_option maxHeartbeats 1000000 in
theorem placesRight_any (a1 a2 : Option Addr) (c1 c2 n : Nat) (l : List Int) (w : World) (hl : l.length ≤ 9223372036854775807) (hn : n ≤ 9223372036854775807) (ha : intsAt w a1 l) :
    Calls Try.prog 67 #[.slice a1 l.length c1, .slice a2 n c2] w fun e w' => e = .returned (.bool (decide (placesOk l n))) ∧ Below w.heap.size w w' := by
  have K : Hid (∀ b1 b2 w1, intsAt w1 a1 l → w1.cell? ⟨b2, 0, none⟩ = some (.slice a2 n c2) → w1.cell? ⟨b1, 0, none⟩ = some (.slice a1 l.length c1) →
      Calls Try.prog 64 #[.slice a1 l.length c1, .func (.func 78) #[] #[.pointer (some ⟨b2, 0, none⟩), .pointer (some ⟨b1, 0, none⟩)]] w1 fun e w' => e = .returned (.bool (decide (placesOk l n))) ∧ Below w1.heap.size w1 w') := by
    intro b1 b2 w1 hi e2 e1
    rw [places_iff]
    exact everyInt_any 78 (enters_of Try.func78 (by kernel_rfl) rfl) #[.pointer (some ⟨b2, 0, none⟩), .pointer (some ⟨b1, 0, none⟩)] (placeB l n) a1 c1 l w1 hl hi (fun i w2 _ hb => pl1_any i b1 b2 a1 a2 c1 c2 n l w2 hl hn (intsAt_below hi hb) (cell_later hb e2) (cell_later hb e1))
  obtain ⟨m, hm⟩ : ∃ z, l.length = z := ⟨_, rfl⟩
  rw [hm] at K ⊢
  obtain ⟨tb, htb⟩ : ∃ z, decide (placesOk l n) = z := ⟨_, rfl⟩
  rw [htb] at K ⊢
  have HA : Hid (intsAt w a1 l) := ha
  clear hm htb ha hl hn
  go_enter Try.func67, Try.ntmps67
  go_wp2_with (go_at_call 64; refine (K.out _ _ _ (intsAt_below HA.out (((Below.refl _ _).alloc (Nat.le_refl _) _).alloc (by simp) _)) (by go_simp) (by go_simp)).mono ?_; rintro e w1 ⟨rfl, hb1⟩)
  go_ret
  exact ⟨rfl, (((Below.refl _ _).alloc (Nat.le_refl _) _).alloc (by simp) _).trans (hb1.mono (by simp; omega))⟩
end Go.Proofs.Ytibjihdeknndoaa.pl
