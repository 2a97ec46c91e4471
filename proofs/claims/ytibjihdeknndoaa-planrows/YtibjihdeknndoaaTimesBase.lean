/- What the functions of package times (and their mirrors in the reference) do, one contract each: Fits, allFit, Until, Meets, Window, Add and the fixed examples of timesBegun. -/
import Derived.Test.YtibjihdeknndoaaRows
import Derived.WalkKit
import Derived.ProofKit
import Derived.OpenShut
namespace Go.Proofs.Ytibjihdeknndoaa.tm
open Go.ChangeShapes Go.WideShapes Go.ChangeAt Go.RowKit
set_option linter.unusedVariables false

/-- a time: from -2^40 to 2^40 -/
def fitB (t : Int) : Bool := decide (-1099511627776 ≤ t ∧ t ≤ 1099511627776)
theorem fit_iff (t : Int) : fitB t = true ↔ (-1099511627776 ≤ t ∧ t ≤ 1099511627776) := by simp [fitB]
theorem fit_no (t : Int) : fitB t = false ↔ ¬ (-1099511627776 ≤ t ∧ t ≤ 1099511627776) := by
  unfold fitB; exact decide_eq_false_iff_not

theorem fits_any (t : Int) (w : World) :
    Calls Try.prog 20 #[.int .i64 t] w fun e w' => e = .returned (.bool (fitB t)) ∧ w' = w := by
  by_cases h1 : -1099511627776 ≤ t
  · by_cases h2 : t ≤ 1099511627776
    · have hf : fitB t = true := (fit_iff t).2 ⟨h1, h2⟩
      rw [hf]
      go_enter Try.func20, Try.ntmps20
      go_wp2
      go_ret
      exact ⟨rfl, rfl⟩
    · have hf : fitB t = false := (fit_no t).2 (by omega)
      rw [hf]
      go_enter Try.func20, Try.ntmps20
      go_wp2
      go_ret
      exact ⟨rfl, rfl⟩
  · have hf : fitB t = false := (fit_no t).2 (by omega)
    rw [hf]
    go_enter Try.func20, Try.ntmps20
    go_wp2
    go_ret
    exact ⟨rfl, rfl⟩

theorem rfits_any (t : Int) (w : World) :
    Calls Try.prog 18 #[.int .i64 t] w fun e w' => e = .returned (.bool (fitB t)) ∧ w' = w := by
  by_cases h1 : -1099511627776 ≤ t
  · by_cases h2 : t ≤ 1099511627776
    · have hf : fitB t = true := (fit_iff t).2 ⟨h1, h2⟩
      rw [hf]
      go_enter Try.func18, Try.ntmps18
      go_wp2
      go_ret
      exact ⟨rfl, rfl⟩
    · have hf : fitB t = false := (fit_no t).2 (by omega)
      rw [hf]
      go_enter Try.func18, Try.ntmps18
      go_wp2
      go_ret
      exact ⟨rfl, rfl⟩
  · have hf : fitB t = false := (fit_no t).2 (by omega)
    rw [hf]
    go_enter Try.func18, Try.ntmps18
    go_wp2
    go_ret
    exact ⟨rfl, rfl⟩

theorem all_snoc (zs : List Int) (k : Nat) (h : k < zs.length) : (zs.take (k + 1)).all fitB = ((zs.take k).all fitB && fitB (zs[k]?.getD 0)) := by
  rw [List.take_succ_eq_append_getElem h, List.all_append, List.getElem?_eq_getElem h]
  simp only [List.all_cons, List.all_nil, Bool.and_true, Option.getD_some]
theorem all_no (zs : List Int) (k : Nat) (h : k < zs.length) (hf : fitB (zs[k]?.getD 0) = false) : zs.all fitB = false := by
  rw [List.all_eq_false]
  exact ⟨zs[k], List.getElem_mem h, by simpa [List.getElem?_eq_getElem h] using hf⟩

set_option maxHeartbeats 400000 in
theorem allFit_any (b : Nat) (zs : List Int) (w : World) (hl : zs.length ≤ 100)
    (hc : ∀ i, i < zs.length → w.cell? ⟨b, i, none⟩ = some (.int .i64 (zs[i]?.getD 0))) :
    Calls Try.prog 54 #[.slice (some ⟨b, 0, none⟩) zs.length zs.length] w fun e w' => e = .returned (.bool (zs.all fitB)) ∧ w' = w := by
  go_enter Try.func54, Try.ntmps54
  go_wp2
  go_loop [7] (fun i => ∃ k : Nat, k ≤ zs.length ∧ i = .int .i64 k ∧ (zs.take k).all fitB = true) (fun i => zs.length - (intOf i).toNat)
  case atStart => exact ⟨0, Nat.zero_le _, rfl, rfl⟩
  case round =>
    obtain ⟨k, hk, rfl, hall⟩ := hrel
    have HA : Hid ((zs.take k).all fitB = true) := hall
    clear hall
    by_cases hlt : k < zs.length
    · have hcell := hc k hlt
      obtain ⟨z, hz0⟩ : ∃ z, zs[k]?.getD 0 = z := ⟨_, rfl⟩
      rw [hz0] at hcell
      have HZ : Hid (zs[k]?.getD 0 = z) := hz0
      clear hc hz0
      by_cases hf : fitB z = true
      · go_wp2_with (go_at_call 20; refine (fits_any _ _).mono ?_; rintro e w' ⟨rfl, hw⟩; subst hw)
        go_round
        case rel => exact ⟨k + 1, by omega, by go_num, by rw [all_snoc zs k hlt, HA.out, HZ.out, hf]; rfl⟩
        case measure => simp [intOf]; omega
      · have hf' : fitB z = false := by simpa using hf
        have hz : Hid (zs.all fitB = false) := all_no zs k hlt (by rw [HZ.out]; exact hf')
        go_wp2_with (go_at_call 20; refine (fits_any _ _).mono ?_; rintro e w' ⟨rfl, hw⟩; subst hw)
        go_ret
        exact ⟨by rw [hz.out]; rfl, rfl⟩
    · have hz : Hid (zs.all fitB = true) := by
        show zs.all fitB = true
        have h := HA.out
        rwa [List.take_of_length_le (by omega)] at h
      go_wp2
      go_ret
      exact ⟨by rw [hz.out]; rfl, rfl⟩
end Go.Proofs.Ytibjihdeknndoaa.tm
