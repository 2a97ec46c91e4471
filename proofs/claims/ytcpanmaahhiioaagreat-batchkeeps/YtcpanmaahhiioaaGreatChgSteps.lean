/- steps: how many changes counts come to, by going over the map in whatever order. -/
import Derived.Test.YtcpanmaahhiioaaGreatChgUndo
import Derived.Maps.RangeWalk
import Derived.Sort.MapsRangeIn
namespace Go.Proofs.YtcpanmaahhiioaaGreat.ch
open Go.ChangeShapes Go.WideShapes Go.ChangeAt Go.RowKit Go.Maps Go.WideMaps Go.Sort
open vl
set_option linter.unusedVariables false
set_option linter.unusedSimpArgs false

/-- what comes out of a map of counts is one of them -/
theorem at_all {kv : KV} {k : List UInt8} {y : DataW Unit} (h : ∀ zd, (toD kv).atKey (.string k) zd = y) : ∃ p ∈ kv, p.1 = k ∧ y = .lit (.int .i64 p.2) := by
  have h0 := h (.lit (.int .i64 0))
  have h1 := h (.lit (.int .i64 1))
  unfold toD DataW.atKey at h0 h1
  simp only [List.find?_map] at h0 h1
  have e : ((fun p : Lit × DataW Unit => p.1.sameKey (.string k)) ∘ ent) = fun p => p.1 == k := rfl
  rw [e] at h0 h1
  cases hf : kv.find? (fun p => p.1 == k) with
  | none =>
    rw [hf] at h0 h1
    simp at h0 h1
    rw [← h0] at h1
    cases h1
  | some p =>
    rw [hf] at h0
    refine ⟨p, List.mem_of_find?_eq_some hf, by simpa using List.find?_some hf, ?_⟩
    simpa [ent] using h0.symm
theorem has_toD (kv : KV) (k : List UInt8) : Maps.has (toD kv) (.string k) = kv.any (fun p => p.1 == k) := by
  show (kv.map ent).any (fun p => p.1.sameKey (.string k)) = _
  rw [List.any_map]
  rfl
theorem has_of {kv : KV} {p : List UInt8 × Int} (h : p ∈ kv) : Maps.has (toD kv) (.string p.1) = true := by
  rw [has_toD, List.any_eq_true]
  exact ⟨p, h, by simp⟩
theorem has_none {kv : KV} {k : List UInt8} (h : Maps.has (toD kv) (.string k) = false) : getK kv k = 0 := by
  rw [has_toD, List.any_eq_false] at h
  exact getK_none (fun p hp e => h p hp (by simpa using e))
theorem same_str (a b : List UInt8) : (Lit.string a).sameKey (.string b) = (a == b) := rfl

/-- what has been counted -/
def doneSum (left : Lit → Bool) : KV → Nat
  | [] => 0
  | p :: r => (if left (.string p.1) then 0 else p.2.natAbs) + doneSum left r
theorem done_start {left : Lit → Bool} {kv : KV} (h : ∀ p ∈ kv, left (.string p.1) = true) : doneSum left kv = 0 := by
  induction kv with
  | nil => rfl
  | cons p r ih => rw [doneSum, if_pos (h p (List.mem_cons_self ..)), ih (fun q hq => h q (List.mem_cons_of_mem _ hq))]
theorem done_end {left : Lit → Bool} {kv : KV} (h : ∀ k, left k = false) : doneSum left kv = sumAbs kv := by
  induction kv with
  | nil => rfl
  | cons p r ih => rw [doneSum, if_neg (by rw [h]; decide), ih, sumAbs]
theorem done_other {left : Lit → Bool} {kv : KV} {k : List UInt8} (h : ∀ p ∈ kv, p.1 ≠ k) : doneSum (fun z => left z && !z.sameKey (.string k)) kv = doneSum left kv := by
  induction kv with
  | nil => rfl
  | cons p r ih =>
    have e : (p.1 == k) = false := by simpa using h p (List.mem_cons_self ..)
    rw [doneSum, doneSum, ih (fun q hq => h q (List.mem_cons_of_mem _ hq)), same_str, e]
    simp
theorem done_step {left : Lit → Bool} {kv : KV} (hr : rising kv) {p : List UInt8 × Int} (hp : p ∈ kv) (hl : left (.string p.1) = true) : doneSum (fun z => left z && !z.sameKey (.string p.1)) kv = doneSum left kv + p.2.natAbs := by
  induction kv with
  | nil => cases hp
  | cons q r ih =>
    have h1 := List.pairwise_cons.1 hr
    rcases List.mem_cons.1 hp with e | hp
    · subst e
      rw [doneSum, doneSum, done_other (fun x hx e => by
        have := h1.1 x hx
        rw [e, before_irrefl] at this; cases this), same_str, hl]
      simp; omega
    · have hne : (q.1 == p.1) = false := by
        rw [beq_eq_false_iff_ne]
        intro e
        have := h1.1 p hp
        rw [e, before_irrefl] at this; cases this
      rw [doneSum, doneSum, ih h1.2 hp, same_str, hne]
      simp; omega
theorem done_le (left : Lit → Bool) (kv : KV) : doneSum left kv ≤ sumAbs kv := by
  induction kv with
  | nil => exact Nat.le_refl _
  | cons p r ih => rw [doneSum, sumAbs]; split <;> omega
theorem sumAbs_le {kv : KV} {m : Nat} (h : ∀ p ∈ kv, p.2.natAbs ≤ m) : sumAbs kv ≤ kv.length * m := by
  induction kv with
  | nil => simp [sumAbs]
  | cons p r ih =>
    rw [sumAbs, List.length_cons, Nat.add_mul, Nat.one_mul]
    have h1 := h p (List.mem_cons_self ..)
    have h2 := ih (fun q hq => h q (List.mem_cons_of_mem _ hq))
    omega
theorem key_str {key : Value} {kl : Lit} {s : ByteArray} (h : keyOf Tryz.prog 9 key = some kl) (hs : key = .string s) : kl = .string s.data.toList := by
  subst hs
  have hk : Tryz.prog.underlying 9 = some .string := Tryz.underlying9
  simp [keyOf, hk, mapKey] at h
  exact h.2.symm

set_option maxRecDepth 10000 in
set_option maxHeartbeats 4000000 in
theorem steps_any (B nn : Nat) (kv : KV) (w : World) (hm : cmap w B nn kv) (hr : rising kv) (hlen : kv.length ≤ 100000) (hc : ∀ p ∈ kv, -10000000000 ≤ p.2 ∧ p.2 ≤ 10000000000) :
    Calls Tryz.prog 69 #[.map (some B)] w fun e w' => e = .returned (.int .i64 (sumAbs kv)) ∧ Below w.heap.size w w' := by
  have HM : Hid (w.ownsMap Tryz.prog 9 (plainElem (H := Unit) Tryz.prog 3) B nn (toD kv)) := hm
  have hBlt := cmap_lt hm
  have hs9 : sumAbs kv ≤ 1000000000000000 := by
    have := sumAbs_le (kv := kv) (m := 10000000000) (fun p hp => by have := hc p hp; omega)
    omega
  have HC : Hid (∀ p ∈ kv, -10000000000 ≤ p.2 ∧ p.2 ≤ 10000000000) := hc
  have HR : Hid (rising kv) := hr
  clear hm hc hr
  go_enter Tryz.func69, Tryz.ntmps69
  go_wp2_with (at_range; refine wpList_range_own _ rfl (.tmp 6) 100 rfl 9 3 law Tryz.underlying100 _ B nn _ rfl HM.out ?_; intro w0 hrg0 hg0 hs0)
  go_frame
  have HRG0 : Hid (w0.ranges Tryz.prog 9 (plainElem (H := Unit) Tryz.prog 3) B w.heap.size nn (toD kv) (Maps.has (toD kv)) (Maps.size (toD kv))) := hrg0
  have hb0 : Below w.heap.size w w0 := (Below.refl _ _).grown hg0 (Nat.le_refl _) (fun k hk => by cases hk)
  clear hrg0 hg0
  go_loopw [3] (fun i wr => ∃ left cnt, wr.ranges Tryz.prog 9 (plainElem (H := Unit) Tryz.prog 3) B w.heap.size nn (toD kv) left cnt ∧ i = .int .i64 (doneSum left kv) ∧ Below w.heap.size w wr) (fun _ wr => wr.rangeLeft B w.heap.size)
  case atStart => exact ⟨_, _, HRG0.out, by rw [done_start (fun p hp => has_of hp)]; rfl, hb0⟩
  case round =>
    obtain ⟨left, cnt, hrg, rfl, hnx⟩ := hrel
    have HRG : Hid (wr.ranges Tryz.prog 9 (plainElem (H := Unit) Tryz.prog 3) B w.heap.size nn (toD kv) left cnt) := hrg
    have HLE : Hid (wr.rangeLeft B w.heap.size = cnt) := hrg.left_eq
    clear hrg
    go_wp2_with (at_next; refine wpList_next_ranges _ rfl (.tmp 7) rfl 9 law _ (fun s : ByteArray => .string s) (fun c : Int => .int .i64 c) (fun key kl hk => Maps.keyOf_string_inv Tryz.underlying9 hk) (fun v y hv => by obtain ⟨c, h, _⟩ := plainElem_int_inv Tryz.underlying3 hv; exact ⟨c, h⟩) B w.heap.size nn _ left cnt rfl HRG.out ?_ ?_)
    · intro hc0 hl0
      have HD : Hid (doneSum left kv = sumAbs kv) := done_end hl0
      clear hl0
      go_wp2
      go_ret
      exact ⟨ret_int (by rw [HD.out]), hnx⟩
    · intro s c kl ya yb w1 cnt1 hkey hlx hv hat hrg1 hlt hg1 hs1 hen
      have hkl := key_str hkey rfl
      subst hkl
      obtain ⟨p, hp, hpk, hya⟩ := at_all hat
      obtain ⟨c', e1, e2, _⟩ := plainElem_int_inv Tryz.underlying3 hv
      have hpc : c = p.2 := by
        cases e1
        have := congrArg Prod.fst e2
        dsimp only at this
        rw [hya] at this
        cases this
        rfl
      have hcb := HC.out p hp
      rw [← hpc] at hcb
      rw [← hpk] at hlx hrg1
      have hst := done_step HR.out hp hlx
      have hle := done_le left kv
      rw [← hpc] at hst
      have HRG1 : Hid (w1.ranges Tryz.prog 9 (plainElem (H := Unit) Tryz.prog 3) B w.heap.size nn (toD kv) (fun z => left z && !z.sameKey (.string p.1)) cnt1) := hrg1
      have HLT : Hid (cnt1 < cnt) := hlt
      have hnx1 : Below w.heap.size w w1 := hnx.grown hg1 hnx.size (fun x hx => by cases hx; exact Nat.le_refl _)
      have HST : Hid (doneSum (fun z => left z && !z.sameKey (.string p.1)) kv = doneSum left kv + c.natAbs) := hst
      obtain ⟨ds, hds⟩ : ∃ x, doneSum left kv = x := ⟨_, rfl⟩
      rw [hds] at HST hle ⊢
      clear hkey hlx hv hat hrg1 hlt hg1 hst hds e1 e2 hya hpc hs1
      have hwn : IntKind.i64.wrap (-c) = -c := by rw [wrap_is]; omega
      by_cases hneg : -c > c
      · have hw1 : IntKind.i64.wrap ((ds : Int) + -c) = (ds : Int) + -c := by rw [wrap_is]; omega
        have hw2 : IntKind.i64.wrap ((ds : Int) - c) = (ds : Int) - c := by rw [wrap_is]; omega
        go_wp2
        go_roundw
        case rel => exact ⟨_, cnt1, HRG1.out, congrArg (Value.int .i64) (by rw [HST.out]; omega), hnx1⟩
        case measure => rw [HRG1.out.left_eq, HLE.out]; exact HLT.out
      · have hw1 : IntKind.i64.wrap ((ds : Int) + c) = (ds : Int) + c := by rw [wrap_is]; omega
        go_wp2
        go_roundw
        case rel => exact ⟨_, cnt1, HRG1.out, congrArg (Value.int .i64) (by rw [HST.out]; omega), hnx1⟩
        case measure => rw [HRG1.out.left_eq, HLE.out]; exact HLT.out
end Go.Proofs.YtcpanmaahhiioaaGreat.ch
