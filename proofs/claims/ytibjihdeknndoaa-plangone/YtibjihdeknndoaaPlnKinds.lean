/- kindsRight, rangesRight, countsRight: the first three rows of D1. -/
import Derived.Test.YtibjihdeknndoaaPlnEvery
namespace Go.Proofs.Ytibjihdeknndoaa.pl
open Go.ChangeShapes Go.WideShapes Go.ChangeAt Go.RowKit
open vl
set_option linter.unusedVariables false
set_option linter.unusedSimpArgs false

theorem dec_bool {a : Bool} {q : Prop} [Decidable q] (h : a = true ↔ q) : a = decide q := by
  by_cases hq : q
  · rw [decide_eq_true hq]; exact h.2 hq
  · rw [decide_eq_false hq]
    cases a with
    | false => rfl
    | true => exact absurd (h.1 rfl) hq

theorem bcell {W w1 : World} (hb : Below W.heap.size W w1) : (∀ b o, b < W.heap.size → w1.cell? ⟨b, o, none⟩ = W.cell? ⟨b, o, none⟩) ∧ (∀ b o, b < W.heap.size → w1.frozen? ⟨b, o, none⟩ = W.frozen? ⟨b, o, none⟩) :=
  ⟨fun b o h => hb.cell (p := ⟨b, o, none⟩) h, fun b o h => hb.frozen (p := ⟨b, o, none⟩) h⟩
def figB (l : List (Int × Int)) : Bool := allB l.length (fun i => betw (l.getD i (0, 0)).1 1 4)
theorem getD_mem {α : Type} {l : List α} {d : α} {i : Nat} (h : i < l.length) : l.getD i d ∈ l := by simp [List.getD_eq_getElem?_getD, h]
theorem all_getD {α : Type} {l : List α} {d : α} {Q : α → Prop} : (∀ i, i < l.length → Q (l.getD i d)) ↔ ∀ x ∈ l, Q x := by
  constructor
  · intro h x hx
    obtain ⟨i, hi, rfl⟩ := List.getElem_of_mem hx
    have := h i hi
    simpa [List.getD_eq_getElem?_getD, hi] using this
  · intro h i hi
    exact h _ (getD_mem hi)
theorem figB_iff (l : List (Int × Int)) : figB l = true ↔ ∀ a ∈ l, 1 ≤ a.1 ∧ a.1 ≤ 4 := by
  unfold figB
  rw [allB_iff]
  simp only [betw_iff]
  exact all_getD (Q := fun a : Int × Int => 1 ≤ a.1 ∧ a.1 ≤ 4)

theorem fig1_any (i : Int) (f c : Int) (w : World) :
    Calls Try.prog 76 #[.int .i64 i, .agg #[.int .i64 f, .int .i64 c]] w fun e w' => e = .returned (.bool (betw f 1 4)) ∧ Below w.heap.size w w' := by
  go_enter Try.func76, Try.ntmps76
  go_wp2_with (go_at_call 58; refine (between_any _ _ _ _).mono ?_; rintro e w' ⟨rfl, hw⟩; subst hw)
  go_ret
  exact ⟨rfl, (Below.refl _ _).alloc (Nat.le_refl _) _⟩
theorem figures_any (a : Option Addr) (cap : Nat) (l : List (Int × Int)) (w : World) (hl : l.length ≤ 9223372036854775807) (ha : aggsAt w a l) :
    Calls Try.prog 59 #[.slice a l.length cap] w fun e w' => e = .returned (.bool (figB l)) ∧ Below w.heap.size w w' := by
  have H := everyAgg_any 76 (enters_of Try.func76 (by kernel_rfl) rfl) #[] (fun i => betw (l.getD i (0, 0)).1 1 4) a cap l w hl ha (fun i w1 _ _ => fig1_any i _ _ w1)
  obtain ⟨n, hn⟩ : ∃ n, l.length = n := ⟨_, rfl⟩
  have HB : Hid (figB l = allB n (fun i => betw (l.getD i (0, 0)).1 1 4)) := by show figB l = _; unfold figB; rw [hn]
  rw [hn] at H ⊢
  clear hn
  go_enter Try.func59, Try.ntmps59
  go_wp2_with (go_at_call 75; refine H.mono ?_; rintro e w1 ⟨rfl, hb1⟩)
  go_ret
  exact ⟨ret_bool HB.out.symm, hb1⟩

theorem kindsRight_any (p : Pln) (x : PA) (w : World) (hp : planAt w p x) (hw : wfPlan p) :
    Calls Try.prog 34 #[planV p x] w fun e w' => e = .returned (.bool (decide (kindsOk p))) ∧ Below w.heap.size w w' := by
  have HF : Hid (∀ w1, Below w.heap.size w w1 → Calls Try.prog 59 #[.slice x.a p.aggs.length x.ac] w1 fun e w' => e = .returned (.bool (figB p.aggs)) ∧ Below w1.heap.size w1 w') := fun w1 hb => figures_any x.a x.ac p.aggs w1 hw.a (aggsAt_below hp.a hb)
  have HK : Hid (decide (kindsOk p) = (betw p.kind 1 3 && betw p.mode 1 (if p.kind = 3 then 2 else 4) && (!p.grouped || figB p.aggs))) := by
    refine (dec_bool ?_).symm
    simp only [Bool.and_eq_true, Bool.or_eq_true, betw_iff, figB_iff, kindsOk, Bool.not_eq_true', and_assoc]
    cases p.grouped <;> simp
  obtain ⟨kind, mode, low, high, size, limit, left, right, lkeys, rkeys, grouped, group, aggs⟩ := p
  obtain ⟨l, lc, r, rc, lk, lkc, rk, rkc, g, gc, a, ac⟩ := x
  unfold planV
  dsimp only at HF HK ⊢
  clear hp hw
  obtain ⟨n6, h6⟩ : ∃ n, left.length = n := ⟨_, rfl⟩
  obtain ⟨n7, h7⟩ : ∃ n, right.length = n := ⟨_, rfl⟩
  obtain ⟨n8, h8⟩ : ∃ n, lkeys.length = n := ⟨_, rfl⟩
  obtain ⟨n9, h9⟩ : ∃ n, rkeys.length = n := ⟨_, rfl⟩
  obtain ⟨n11, h11⟩ : ∃ n, group.length = n := ⟨_, rfl⟩
  obtain ⟨n12, h12⟩ : ∃ n, aggs.length = n := ⟨_, rfl⟩
  rw [h12] at HF
  rw [h6, h7, h8, h9, h11, h12]
  clear h6 h7 h8 h9 h11 h12
  obtain ⟨fb, hfb⟩ : ∃ z, figB aggs = z := ⟨_, rfl⟩
  rw [hfb] at HF HK
  clear hfb
  by_cases hk : kind = 3
  · subst hk
    have HK2 : Hid (decide (kindsOk ⟨3, mode, low, high, size, limit, left, right, lkeys, rkeys, grouped, group, aggs⟩) = (true && betw mode 1 2 && (!grouped || fb))) := HK.out
    clear HK
    have b0 : betw 3 1 3 = true := by decide
    cases hb : betw mode 1 2 <;> rw [hb] at HK2 <;> cases grouped <;> cases fb
    all_goals
      go_enter Try.func34, Try.ntmps34
      go_wp2_with (first
        | (go_at_call 58; refine (between_any _ _ _ _).mono ?_; rintro e w' ⟨rfl, hw⟩; subst hw)
        | (go_at_call 59; refine (HF.out _ ((Below.refl _ _).alloc (Nat.le_refl _) _)).mono ?_; rintro e w1 ⟨rfl, hb1⟩))
      go_ret
      refine ⟨ret_bool HK2.out.symm, ?_⟩
      first
        | exact ((Below.refl _ _).alloc (Nat.le_refl _) _).trans (hb1.mono (by simp))
        | exact (Below.refl _ _).alloc (Nat.le_refl _) _
  · have hk3 : (kind == 3) = false := by simpa using hk
    rw [if_neg hk] at HK
    clear hk
    cases h0 : betw kind 1 3 <;> rw [h0] at HK <;> cases hb : betw mode 1 4 <;> rw [hb] at HK <;> cases grouped <;> cases fb
    all_goals
      go_enter Try.func34, Try.ntmps34
      go_wp2_with (first
        | (go_at_call 58; refine (between_any _ _ _ _).mono ?_; rintro e w' ⟨rfl, hw⟩; subst hw)
        | (go_at_call 59; refine (HF.out _ ((Below.refl _ _).alloc (Nat.le_refl _) _)).mono ?_; rintro e w1 ⟨rfl, hb1⟩))
      go_ret
      refine ⟨ret_bool HK.out.symm, ?_⟩
      first
        | exact ((Below.refl _ _).alloc (Nat.le_refl _) _).trans (hb1.mono (by simp))
        | exact (Below.refl _ _).alloc (Nat.le_refl _) _
end Go.Proofs.Ytibjihdeknndoaa.pl
