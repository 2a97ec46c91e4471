/- Slots in memory, and the smallest functions of package disk: countRight, Check, checkSlot; the document's CheckDisk and SlotError. -/
import Derived.Test.YtdjlnloalpfmoaaRows
import Derived.WalkKit
import Derived.ProofKit
import Derived.OpenShut
import Derived.WalkSpells
import Derived.WalkSmall
import Derived.WalkLawsBesides
import Derived.OwnWalk
import Derived.Deep.RegionHeld3
import Derived.Deep.DrawnRows
import Derived.Deep.QuietTactic
import Derived.BigQuiet
import Derived.Deep.Light
import Derived.Deep.AppendLies
import Derived.Deep.Onto
import Derived.Shelf.Small.Strs
namespace Go.Proofs.Ytdjlnloalpfmoaa.dk
open Go.ChangeShapes Go.WideShapes Go.ChangeAt Go.RowKit
set_option linter.unusedVariables false
set_option linter.unusedSimpArgs false

theorem ret_bool {a b : Bool} (h : a = b) : Ending.returned (.bool a) = .returned (.bool b) := by rw [h]
theorem ret_int {k : IntKind} {a b : Int} (h : a = b) : Ending.returned (.int k a) = .returned (.int k b) := by rw [h]

/-- a slot -/
structure Slt where
  safe : ByteArray
  wait : ByteArray
  has : Bool
deriving DecidableEq
instance : Inhabited Slt := ⟨⟨⟨#[]⟩, ⟨#[]⟩, false⟩⟩
def Slt.val (c : Slt) : Value := .agg #[.string c.safe, .string c.wait, .bool c.has]
/-- a slice that begins at a has these slots -/
def slotsAt (w : World) (a : Option Addr) (r : List Slt) : Prop :=
  ∀ i, i < r.length → ∃ b off, a = some ⟨b, off, none⟩ ∧ w.cell? ⟨b, off + i * 3, none⟩ = some (.string (r.getD i default).safe) ∧ w.cell? ⟨b, off + i * 3 + 1, none⟩ = some (.string (r.getD i default).wait) ∧ w.cell? ⟨b, off + i * 3 + 1 + 1, none⟩ = some (.bool (r.getD i default).has)
theorem slotsAt_below {w w' : World} {a : Option Addr} {l : List Slt} (h : slotsAt w a l) (hb : Below w.heap.size w w') : slotsAt w' a l := by
  intro i hi
  obtain ⟨b, o, e, x, y, z⟩ := h i hi
  exact ⟨b, o, e, cell_later hb x, cell_later hb y, cell_later hb z⟩
def diskV (a : Option Addr) (n cap : Nat) : Value := .agg #[.slice a n cap]

def betw (n a b : Int) : Bool := decide (a ≤ n ∧ n ≤ b)
theorem betw_iff (n a b : Int) : betw n a b = true ↔ (a ≤ n ∧ n ≤ b) := by simp [betw]
theorem betw_no (n a b : Int) : betw n a b = false ↔ ¬ (a ≤ n ∧ n ≤ b) := by unfold betw; exact decide_eq_false_iff_not
theorem within_any (n a b : Int) (w : World) :
    Calls Try.prog 25 #[.int .i64 n, .int .i64 a, .int .i64 b] w fun e w' => e = .returned (.bool (betw n a b)) ∧ w' = w := by
  by_cases h1 : a ≤ n
  · by_cases h2 : n ≤ b
    · rw [(betw_iff n a b).2 ⟨h1, h2⟩]
      go_enter Try.func25, Try.ntmps25
      go_wp2
      go_ret
      exact ⟨rfl, rfl⟩
    · rw [(betw_no n a b).2 (by omega)]
      go_enter Try.func25, Try.ntmps25
      go_wp2
      go_ret
      exact ⟨rfl, rfl⟩
  · rw [(betw_no n a b).2 (by omega)]
    go_enter Try.func25, Try.ntmps25
    go_wp2
    go_ret
    exact ⟨rfl, rfl⟩
theorem countRight_any (n : Int) (w : World) :
    Calls Try.prog 20 #[.int .i64 n] w fun e w' => e = .returned (.bool (betw n 1 8)) ∧ w' = w := by
  by_cases h1 : 1 ≤ n
  · by_cases h2 : n ≤ 8
    · rw [(betw_iff n 1 8).2 ⟨h1, h2⟩]
      go_enter Try.func20, Try.ntmps20
      go_wp2
      go_ret
      exact ⟨rfl, rfl⟩
    · rw [(betw_no n 1 8).2 (by omega)]
      go_enter Try.func20, Try.ntmps20
      go_wp2
      go_ret
      exact ⟨rfl, rfl⟩
  · rw [(betw_no n 1 8).2 (by omega)]
    go_enter Try.func20, Try.ntmps20
    go_wp2
    go_ret
    exact ⟨rfl, rfl⟩

/-- is it so at each place? -/
def allB (n : Nat) (P : Nat → Bool) : Bool := (List.range n).all P
theorem allB_iff {n : Nat} {P : Nat → Bool} : allB n P = true ↔ ∀ i, i < n → P i = true := by simp [allB]
theorem allB_no {n : Nat} {P : Nat → Bool} {i : Nat} (hi : i < n) (h : P i = false) : allB n P = false := by
  rcases Bool.eq_false_or_eq_true (allB n P) with h1 | h1
  · have := allB_iff.1 h1 i hi; rw [h] at this; cases this
  · exact h1
set_option maxHeartbeats 1000000 in
theorem everySlot_any (fn : FuncId) (eg : ∀ args w, (callFunc fn args).run Try.prog w = .ok (.enter fn args) w) (caps : Array Value) (P : Nat → Bool) (a : Option Addr) (cap : Nat) (l : List Slt) (w : World) (hl : l.length ≤ 9223372036854775807) (ha : slotsAt w a l)
    (H : ∀ i w1, i < l.length → Below w.heap.size w w1 → Calls Try.prog fn (#[.int .i64 (i : Nat), (l.getD i default).val] ++ caps) w1 fun e w' => e = .returned (.bool (P i)) ∧ Below w1.heap.size w1 w') :
    Calls Try.prog 26 #[.slice a l.length cap, .func (.func fn) #[] caps] w fun e w' => e = .returned (.bool (allB l.length P)) ∧ Below w.heap.size w w' := by
  have HH : Hid (∀ i w1, i < l.length → Below w.heap.size w w1 → Calls Try.prog fn (#[.int .i64 (i : Nat), (l.getD i default).val] ++ caps) w1 fun e w' => e = .returned (.bool (P i)) ∧ Below w1.heap.size w1 w') := H
  clear H
  obtain ⟨n, hn⟩ : ∃ n, l.length = n := ⟨_, rfl⟩
  have HN : Hid (l.length = n) := hn
  rw [hn] at hl ⊢
  clear hn
  go_enter Try.func26, Try.ntmps26
  go_wp2
  go_loopw [9] (fun i wr => ∃ k : Nat, k ≤ n ∧ i = .int .i64 k ∧ Below w.heap.size w wr ∧ ∀ i, i < k → P i = true) (fun i _ => n - (intOf i).toNat)
  case atStart => exact ⟨0, Nat.zero_le _, rfl, Below.refl _ _, fun i hi => absurd hi (Nat.not_lt_zero i)⟩
  case round =>
    obtain ⟨k, hk, rfl, hnx, hall⟩ := hrel
    have HA : Hid (∀ i, i < k → P i = true) := hall
    clear hall
    by_cases hlt : k < n
    · obtain ⟨b, o, e, x1, x2, x3⟩ := ha k (by rw [HN.out]; exact hlt)
      subst e
      have q1 := cell_later hnx x1
      have q2 := cell_later hnx x2
      have q3 := cell_later hnx x3
      clear x1 x2 x3 ha
      have i1 : (0 : Int) ≤ (k : Int) := by omega
      have i2 : (k : Int) < (n : Int) := by omega
      have KK : Hid (∀ w1, Below wr.heap.size wr w1 → Calls Try.prog fn (#[.int .i64 (k : Nat), (l.getD k default).val] ++ caps) w1 fun e w' => e = .returned (.bool (P k)) ∧ Below w1.heap.size w1 w') := fun w1 hb => HH.out k w1 (by rw [HN.out]; exact hlt) (hnx.trans (hb.mono hnx.size))
      obtain ⟨⟨ka, na, sa⟩, hz⟩ : ∃ z, l.getD k default = z := ⟨_, rfl⟩
      rw [hz] at q1 q2 q3 KK
      dsimp only at q1 q2 q3 KK
      clear hz
      unfold Slt.val at KK
      dsimp only at KK
      have hsz := hnx.size
      cases hp : P k with
      | true =>
        rw [hp] at KK
        go_wp2_with (go_at_fn fn; refine (KK.out _ ((Below.refl _ _).alloc (Nat.le_refl _) _)).mono ?_; rintro e w1 ⟨rfl, hb1⟩; have hbx := (hnx.alloc hsz _).trans (hb1.mono (by simp; omega)))
        go_roundw
        case rel => exact ⟨k + 1, by omega, by go_num, hbx, fun i hi => by
          rcases Nat.lt_succ_iff_lt_or_eq.1 hi with h | h
          · exact HA.out i h
          · rw [h]; exact hp⟩
        case measure => simp [intOf]; omega
      | false =>
        have HE : Hid (allB n P = false) := allB_no hlt hp
        rw [hp] at KK
        go_wp2_with (go_at_fn fn; refine (KK.out _ ((Below.refl _ _).alloc (Nat.le_refl _) _)).mono ?_; rintro e w1 ⟨rfl, hb1⟩; have hbx := (hnx.alloc hsz _).trans (hb1.mono (by simp; omega)))
        go_ret
        exact ⟨ret_bool HE.out.symm, hbx⟩
    · have HE : Hid (allB n P = true) := allB_iff.2 (fun i hi => HA.out i (by omega))
      go_wp2
      go_ret
      exact ⟨ret_bool HE.out.symm, hnx⟩

/-- a slot in which nothing waits has no text that waits -/
def sltOk (c : Slt) : Bool := c.has || decide (c.wait = ⟨#[]⟩)
theorem bytes_eq (a b : ByteArray) : (a.toList == b.toList) = decide (a = b) := by
  by_cases h : a = b
  · subst h; simp
  · rw [decide_eq_false h]
    rw [beq_eq_false_iff_ne]
    intro e
    exact h (ByteArray.ext (Array.ext' (by rwa [Lib.toList_data, Lib.toList_data] at e)))
theorem nil_eq (a : ByteArray) : a.toList = [] ↔ a = ⟨#[]⟩ := by
  have e0 : (⟨#[]⟩ : ByteArray).toList = [] := by rw [Lib.toList_data]
  constructor
  · intro e
    exact ByteArray.ext (Array.ext' (by rw [Lib.toList_data] at e; rw [e]))
  · intro e; subst e; exact e0
theorem empty_eq (a : ByteArray) : a.toList.isEmpty = decide (a = ⟨#[]⟩) := by
  by_cases h : a = ⟨#[]⟩
  · rw [decide_eq_true h, (nil_eq a).2 h]; rfl
  · rw [decide_eq_false h]
    rcases Bool.eq_false_or_eq_true a.toList.isEmpty with e | e
    · exact absurd ((nil_eq a).1 (List.isEmpty_iff.1 e)) h
    · exact e
theorem check1_any (i : Int) (c : Slt) (w : World) :
    Calls Try.prog 27 #[.int .i64 i, c.val] w fun e w' => e = .returned (.bool (sltOk c)) ∧ Below w.heap.size w w' := by
  obtain ⟨s, t, h⟩ := c
  unfold Slt.val sltOk
  dsimp only
  cases h with
  | true =>
    go_enter Try.func27, Try.ntmps27
    go_wp2
    go_ret
    exact ⟨rfl, (Below.refl _ _).alloc (Nat.le_refl _) _⟩
  | false =>
    have HE : Hid (t.toList.isEmpty = (false || decide (t = ⟨#[]⟩))) := by
      show _ = _
      rw [Bool.false_or]; exact empty_eq t
    go_enter Try.func27, Try.ntmps27
    go_wp2
    go_ret
    exact ⟨ret_bool HE.out, (Below.refl _ _).alloc (Nat.le_refl _) _⟩

/-- what is wrong with a disk -/
def errD (l : List Slt) : Int := if betw l.length 1 8 = false then 2 else if allB l.length (fun i => sltOk (l.getD i default)) = false then 1 else 0
set_option maxHeartbeats 1000000 in
theorem check_any (a : Option Addr) (cap : Nat) (l : List Slt) (w : World) (hl : l.length ≤ 9223372036854775807) (ha : slotsAt w a l) :
    Calls Try.prog 11 #[diskV a l.length cap] w fun e w' => e = .returned (.int .i64 (errD l)) ∧ Below w.heap.size w w' := by
  have KE : Hid (∀ w1, Below w.heap.size w w1 → Calls Try.prog 26 #[.slice a l.length cap, .func (.func 27) #[] #[]] w1 fun e w' => e = .returned (.bool (allB l.length (fun i => sltOk (l.getD i default)))) ∧ Below w1.heap.size w1 w') :=
    fun w1 hb => everySlot_any 27 (Go.Proofs.enters_of Try.func27 (by kernel_rfl) rfl) #[] _ a cap l w1 hl (slotsAt_below ha hb) (fun i w2 hi _ => check1_any i _ w2)
  unfold diskV
  obtain ⟨E, hE⟩ : ∃ z, errD l = z := ⟨_, rfl⟩
  obtain ⟨A, hA⟩ : ∃ z, allB l.length (fun i => sltOk (l.getD i default)) = z := ⟨_, rfl⟩
  obtain ⟨n, hn⟩ : ∃ z, l.length = z := ⟨_, rfl⟩
  have HE : Hid (E = if betw n 1 8 = false then 2 else if A = false then 1 else 0) := by
    show E = _
    rw [← hE, ← hA, ← hn]; rfl
  rw [hA, hn] at KE
  rw [hE, hn]
  rw [hn] at hl
  clear hE hA hn ha
  obtain ⟨B, hB⟩ : ∃ z, betw n 1 8 = z := ⟨_, rfl⟩
  have KC : Hid (∀ w1, Calls Try.prog 20 #[.int .i64 n] w1 fun e w' => e = .returned (.bool B) ∧ w' = w1) := fun w1 => by rw [← hB]; exact countRight_any n w1
  rw [hB] at HE
  clear hB
  cases B with
  | false =>
    have HE2 : Hid (E = 2) := HE.out
    go_enter Try.func11, Try.ntmps11
    go_wp2_with (go_at_call 20; refine (KC.out _).mono ?_; rintro e w1 ⟨rfl, hw⟩; subst hw)
    go_ret
    exact ⟨ret_int HE2.out.symm, (Below.refl _ _).alloc (Nat.le_refl _) _⟩
  | true =>
    cases A with
    | false =>
      have HE2 : Hid (E = 1) := HE.out
      go_enter Try.func11, Try.ntmps11
      go_wp2_with (first | (go_at_call 20; refine (KC.out _).mono ?_; rintro e w1 ⟨rfl, hw⟩; subst hw) | (go_at_call 26; refine (KE.out _ ((Below.refl _ _).alloc (Nat.le_refl _) _)).mono ?_; rintro e w1 ⟨rfl, hb1⟩))
      go_ret
      exact ⟨ret_int HE2.out.symm, ((Below.refl _ _).alloc (Nat.le_refl _) _).trans (hb1.mono (by simp))⟩
    | true =>
      have HE2 : Hid (E = 0) := HE.out
      go_enter Try.func11, Try.ntmps11
      go_wp2_with (first | (go_at_call 20; refine (KC.out _).mono ?_; rintro e w1 ⟨rfl, hw⟩; subst hw) | (go_at_call 26; refine (KE.out _ ((Below.refl _ _).alloc (Nat.le_refl _) _)).mono ?_; rintro e w1 ⟨rfl, hb1⟩))
      go_ret
      exact ⟨ret_int HE2.out.symm, ((Below.refl _ _).alloc (Nat.le_refl _) _).trans (hb1.mono (by simp))⟩

set_option maxHeartbeats 1000000 in
theorem rcheck_any (a : Option Addr) (cap : Nat) (l : List Slt) (w : World) (hl : l.length ≤ 9223372036854775807) (ha : slotsAt w a l) :
    Calls Try.prog 12 #[diskV a l.length cap] w fun e w' => e = .returned (.int .i64 (errD l)) ∧ Below w.heap.size w w' := by
  unfold diskV
  obtain ⟨E, hE⟩ : ∃ z, errD l = z := ⟨_, rfl⟩
  obtain ⟨A, hA⟩ : ∃ z, allB l.length (fun i => sltOk (l.getD i default)) = z := ⟨_, rfl⟩
  obtain ⟨n, hn⟩ : ∃ z, l.length = z := ⟨_, rfl⟩
  have HE : Hid (E = if betw n 1 8 = false then 2 else if A = false then 1 else 0) := by
    show E = _
    rw [← hE, ← hA, ← hn]; rfl
  have HN : Hid (l.length = n) := hn
  rw [hn] at hA
  have HAA : Hid (allB n (fun i => sltOk (l.getD i default)) = A) := hA
  rw [hE, hn]
  rw [hn] at hl
  clear hE hA hn
  obtain ⟨B, hB⟩ : ∃ z, betw n 1 8 = z := ⟨_, rfl⟩
  have KC : Hid (∀ w1, Calls Try.prog 25 #[.int .i64 n, .int .i64 1, .int .i64 8] w1 fun e w' => e = .returned (.bool B) ∧ w' = w1) := fun w1 => by rw [← hB]; exact within_any n 1 8 w1
  rw [hB] at HE
  clear hB
  cases B with
  | false =>
    have HE2 : Hid (E = 2) := HE.out
    go_enter Try.func12, Try.ntmps12
    go_wp2_with (go_at_call 25; refine (KC.out _).mono ?_; rintro e w1 ⟨rfl, hw⟩; subst hw)
    go_ret
    exact ⟨ret_int HE2.out.symm, (Below.refl _ _).alloc (Nat.le_refl _) _⟩
  | true =>
    have HE3 : Hid (E = if A = false then 1 else 0) := HE.out
    go_enter Try.func12, Try.ntmps12
    go_wp2_with (go_at_call 25; refine (KC.out _).mono ?_; rintro e w1 ⟨rfl, hw⟩; subst hw)
    have z0 : (w.alloc (.cells #[.slice a n cap] 24)).cell? ⟨w.heap.size, 0, none⟩ = some (.slice a n cap) := by go_simp
    go_loopw [3] (fun i wr => ∃ k : Nat, k ≤ n ∧ i = .int .i64 k ∧ wr = w.alloc (.cells #[.slice a n cap] 24) ∧ ∀ i, i < k → sltOk (l.getD i default) = true) (fun i _ => n - (intOf i).toNat)
    case atStart => exact ⟨0, Nat.zero_le _, rfl, rfl, fun i hi => absurd hi (Nat.not_lt_zero i)⟩
    case round =>
      obtain ⟨k, hk, rfl, rfl, hall⟩ := hrel
      have HA : Hid (∀ i, i < k → sltOk (l.getD i default) = true) := hall
      have hnx : Below w.heap.size w (w.alloc (.cells #[.slice a n cap] 24)) := (Below.refl _ _).alloc (Nat.le_refl _) _
      clear hall
      by_cases hlt : k < n
      · obtain ⟨b, o, e, x1, x2, x3⟩ := ha k (by rw [HN.out]; exact hlt)
        subst e
        have q2 := cell_later hnx x2
        have q3 := cell_later hnx x3
        clear x1 x2 x3 ha
        have i1 : (0 : Int) ≤ (k : Int) := by omega
        have i2 : (k : Int) < (n : Int) := by omega
        obtain ⟨⟨s, t, h⟩, hz⟩ : ∃ z, l.getD k default = z := ⟨_, rfl⟩
        have HZ : Hid (l.getD k default = ⟨s, t, h⟩) := hz
        rw [hz] at q2 q3
        dsimp only at q2 q3
        clear hz
        generalize hW : w.alloc (.cells #[.slice (some ⟨b, o, none⟩) n cap] 24) = W at *
        cases h with
        | true =>
          have HS : Hid (sltOk (l.getD k default) = true) := by show _ = _; rw [HZ.out]; rfl
          go_wp2
          go_roundw
          case rel => exact ⟨k + 1, by omega, by go_num, (by trivial), fun i hi => by
            rcases Nat.lt_succ_iff_lt_or_eq.1 hi with h | h
            · exact HA.out i h
            · rw [h]; exact HS.out⟩
          case measure => simp [intOf]; omega
        | false =>
          have HS : Hid (sltOk (l.getD k default) = t.toList.isEmpty) := by show _ = _; rw [HZ.out, empty_eq]; rfl
          cases ht : t.toList.isEmpty with
          | true =>
            rw [ht] at HS
            go_wp2
            go_roundw
            case rel => exact ⟨k + 1, by omega, by go_num, (by trivial), fun i hi => by
              rcases Nat.lt_succ_iff_lt_or_eq.1 hi with h | h
              · exact HA.out i h
              · rw [h]; exact HS.out⟩
            case measure => simp [intOf]; omega
          | false =>
            rw [ht] at HS
            have HE4 : Hid (E = 1) := by
              have h1 : A = false := by rw [← HAA.out]; exact allB_no hlt HS.out
              have h2 := HE3.out
              rw [h1] at h2; exact h2
            go_wp2
            go_ret
            exact ⟨ret_int HE4.out.symm, hnx⟩
      · have HE4 : Hid (E = 0) := by
          have h1 : A = true := by rw [← HAA.out]; exact allB_iff.2 (fun i hi => HA.out i (by omega))
          have h2 := HE3.out
          rw [h1] at h2; exact h2
        go_wp2
        go_ret
        exact ⟨ret_int HE4.out.symm, hnx⟩

/-- what is wrong with a disk, or a slot of it -/
def errS (l : List Slt) (s : Int) : Int := if errD l ≠ 0 then errD l else if betw s 0 (l.length - 1) = true then 0 else 9
end Go.Proofs.Ytdjlnloalpfmoaa.dk
