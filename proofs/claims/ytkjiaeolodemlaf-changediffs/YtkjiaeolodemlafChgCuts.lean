/- ChangeCuts answers true. -/
import Derived.Test.YtkjiaeolodemlafChgOpen
namespace Go.Proofs.Ytkjiaeolodemlaf.ch
open Go.ChangeShapes Go.WideShapes Go.ChangeAt Go.RowKit Go.Maps Go.WideMaps Go.Sort
open vl
set_option linter.unusedVariables false
set_option linter.unusedSimpArgs false

theorem tmod_le {c m : Int} {n : Nat} (hc : 0 ≤ c) (hc2 : c ≤ 9223372036854775807) (hm : m = n + 1 ∨ (n = 9223372036854775807 ∧ m = -9223372036854775808)) : 0 ≤ c.tmod m ∧ c.tmod m ≤ n := by
  refine ⟨Int.tmod_nonneg m hc, ?_⟩
  rcases hm with h | ⟨h1, h2⟩
  · have := Int.tmod_lt_of_pos c (b := m) (by omega)
    omega
  · have h3 : c.tmod m ≤ c := by
      rw [h2, Int.tmod_neg, Int.tmod_eq_emod_of_nonneg hc]
      omega
    omega

set_option maxHeartbeats 1000000 in
theorem choose_any (c m : Int) (n : Nat) (w : World) (c1 : -9223372036854775808 ≤ c) (c2 : c ≤ 9223372036854775807) (hm : m = n + 1 ∨ (n = 9223372036854775807 ∧ m = -9223372036854775808)) (hn : n ≤ 9223372036854775807) :
    Calls Try.prog 19 #[.int .i64 c, .int .i64 m] w fun e w' => (∃ k : Nat, k ≤ n ∧ e = .returned (.int .i64 k)) ∧ w' = w := by
  have m0 : (m == 0) = false := by rw [beq_eq_false_iff_ne]; omega
  have m1 : m ≠ 0 := by omega
  by_cases h : c < 0
  · have hw1 : IntKind.i64.wrap (c + 1) = c + 1 := by rw [wrap_is]; omega
    have hw2 : IntKind.i64.wrap (-(c + 1)) = -(c + 1) := by rw [wrap_is]; omega
    have ht := tmod_le (c := -(c + 1)) (by omega) (by omega) hm
    have hw3 : IntKind.i64.wrap ((-(c + 1)).tmod m) = (-(c + 1)).tmod m := by rw [wrap_is]; omega
    have HT : Hid (0 ≤ (-(c + 1)).tmod m ∧ (-(c + 1)).tmod m ≤ n) := ht
    clear ht
    go_enter Try.func19, Try.ntmps19
    go_wp2
    go_ret
    exact ⟨⟨((-(c + 1)).tmod m).toNat, by have := HT.out; omega, ret_int (by rw [Int.toNat_of_nonneg HT.out.1, Int.neg_tmod])⟩, rfl⟩
  · have ht := tmod_le (c := c) (by omega) (by omega) hm
    have hw3 : IntKind.i64.wrap (c.tmod m) = c.tmod m := by rw [wrap_is]; omega
    have HT : Hid (0 ≤ c.tmod m ∧ c.tmod m ≤ n) := ht
    clear ht
    go_enter Try.func19, Try.ntmps19
    go_wp2
    go_ret
    exact ⟨⟨(c.tmod m).toNat, by have := HT.out; omega, ret_int (by rw [Int.toNat_of_nonneg HT.out.1, Int.tmod_eq_emod_of_nonneg (by omega)])⟩, rfl⟩

theorem form_any (a : Option Addr) (cap : Nat) (l : List Chg) (w : World) (hv : chgsAt w a l) (hw : wfChgs l) (hl : l.length ≤ 9223372036854775807) :
    Calls Try.prog 20 #[.slice a l.length cap] w fun e w' => e = .returned (.int .i64 (formErr l)) ∧ Below w.heap.size w w' := by
  have KK := keysOf_any a cap l w hv hw hl
  obtain ⟨n, hn⟩ : ∃ n, l.length = n := ⟨_, rfl⟩
  rw [hn] at KK
  rw [hn]
  go_enter Try.func20, Try.ntmps20
  go_wp2_with fail
  refine KK.mono ?_
  rintro e w1 ⟨hres, hb⟩
  rcases hres with ⟨h1, _, ad, c, rfl, _⟩ | ⟨_, rfl⟩
  · go_wp2
    go_ret
    exact ⟨ret_int h1.symm, hb⟩
  · go_wp2
    go_ret
    exact ⟨rfl, hb⟩

theorem sizeG (w : World) : (sizeOf 58).run Try.prog w = .ok 2 w := by kernel_rfl
theorem elemG : Try.prog.elem 23 = 58 := by kernel_rfl
theorem undG : Try.prog.underlying 23 = some (.slice (Try.prog.elem 23)) := by rw [elemG]; exact Try.underlying23
/-- the front of changes -/
theorem front_is (a : Option Addr) (n cap k : Nat) (hk : k ≤ n) (hn : n ≤ cap) : ∃ a1, (∀ w, (Instr.sliceAt 23 (.slice a n cap) none (some (.int .i64 k)) none).run Try.prog w = .ok (.slice a1 k cap) w) ∧ ∀ (w : World) (l : List Chg), l.length = n → chgsAt w a l → chgsAt w a1 (l.take k) := by
  refine ⟨if cap = 0 then a else a.map (·.add (0 * 2)), ?_, ?_⟩
  · intro w
    rw [run_sliceAt_slice (t := 23) (h := undG), run_slice_h (t := 23) (ht := undG) (h0 := by omega) (h2 := by omega), elemG, sizeG]
    simp [Result.andThen, sliced]
  · intro w l hl h i hi
    rw [List.length_take] at hi
    obtain ⟨b, o, ra, rc, e, x1, x2, x3⟩ := h i (by omega)
    have eg : (l.take k).getD i default = l.getD i default := by
      simp only [List.getD_eq_getElem?_getD, List.getElem?_take]; rw [if_pos (by omega)]
    rw [eg]
    refine ⟨b, o, ra, rc, ?_, x1, x2, x3⟩
    rw [e, if_neg (by omega)]
    simp [Addr.add]
theorem back_is (a : Option Addr) (n cap k : Nat) (hk : k ≤ n) (hn : n ≤ cap) : ∃ a2 cap2, (∀ w, (Instr.sliceAt 23 (.slice a n cap) (some (.int .i64 k)) none none).run Try.prog w = .ok (.slice a2 (n - k) cap2) w) ∧ ∀ (w : World) (l : List Chg), l.length = n → chgsAt w a l → chgsAt w a2 (l.drop k) := by
  refine ⟨if cap = k then a else a.map (·.add (k * 2)), cap - k, ?_, ?_⟩
  · intro w
    rw [run_sliceAt_slice (t := 23) (h := undG), run_slice_l (t := 23) (ht := undG) (h0 := by omega) (h1 := by omega), elemG, sizeG]
    simp [Result.andThen, sliced]
  · intro w l hl h i hi
    rw [List.length_drop] at hi
    obtain ⟨b, o, ra, rc, e, x1, x2, x3⟩ := h (k + i) (by omega)
    have eg : (l.drop k).getD i default = l.getD (k + i) default := by
      simp only [List.getD_eq_getElem?_getD, List.getElem?_drop]
    rw [eg]
    have ea : o + (k + i) * 2 = o + k * 2 + i * 2 := by omega
    rw [ea] at x1 x2
    refine ⟨b, o + k * 2, ra, rc, ?_, x1, x2, x3⟩
    rw [e, if_neg (by omega)]
    simp [Addr.add]

/-- the two parts, one behind the other -/
theorem atK_take (kv : KV) (l : List Chg) (k i : Nat) (h : i ≤ k) : atK kv (l.take k) i = atK kv l i := by
  unfold atK
  rw [List.take_take, Nat.min_eq_left h]
theorem atK_drop (kv : KV) (l : List Chg) (k i : Nat) : atK (atK kv l k) (l.drop k) i = atK kv l (k + i) := by
  unfold atK
  rw [List.take_add, List.foldl_append]
theorem getC_take (l : List Chg) (k i : Nat) (h : i < k) : (l.take k).getD i default = l.getD i default := by
  simp only [List.getD_eq_getElem?_getD, List.getElem?_take]; rw [if_pos h]
theorem getC_drop (l : List Chg) (k i : Nat) : (l.drop k).getD i default = l.getD (k + i) default := by
  simp only [List.getD_eq_getElem?_getD, List.getElem?_drop]
theorem errK_take (kv : KV) (l : List Chg) (k i : Nat) (h : i < k) : errK kv (l.take k) i = errK kv l i := by
  unfold errK
  rw [atK_take kv l k i (by omega), getC_take l k i h]
theorem errK_drop (kv : KV) (l : List Chg) (k i : Nat) : errK (atK kv l k) (l.drop k) i = errK kv l (k + i) := by
  unfold errK
  rw [atK_drop, getC_drop]
theorem form_drop {l : List Chg} {k : Nat} (h : formOk l) (hk : k ≤ l.length) (h1 : formOk (l.take k)) : formOk (l.drop k) := by
  refine ⟨by rw [List.length_drop]; have := h.1; omega, ?_⟩
  intro i hi
  rw [List.length_drop] at hi
  obtain ⟨q1, q2, q3, q4⟩ := h.2 (k + i) (by omega)
  refine ⟨by rw [getC_drop]; exact q1, by rw [getC_drop]; exact q2, by rw [getC_drop]; exact q3, ?_⟩
  unfold pairedAt at q4 ⊢
  rw [getC_drop, List.length_drop]
  by_cases c3 : (l.getD (k + i) default).k = 3
  · rw [if_pos c3] at q4 ⊢
    rw [getC_drop]
    simp only [Bool.and_eq_true, decide_eq_true_eq] at q4 ⊢
    exact ⟨by omega, q4.2⟩
  · rw [if_neg c3] at q4 ⊢
    by_cases c4 : (l.getD (k + i) default).k = 4
    · rw [if_pos c4] at q4 ⊢
      simp only [Bool.and_eq_true, decide_eq_true_eq] at q4 ⊢
      have hi0 : 0 < i := by
        rcases Nat.eq_zero_or_pos i with e | e
        · subst e
          exfalso
          have hk0 : 0 < k := by simpa using q4.1
          have hp := (h1.2 (k - 1) (by rw [List.length_take]; omega)).2.2.2
          unfold pairedAt at hp
          rw [getC_take l k (k - 1) (by omega), List.length_take] at hp
          have : (l.getD (k - 1) default).k = 3 := by have := q4.2; simpa using this
          rw [if_pos this] at hp
          simp only [Bool.and_eq_true, decide_eq_true_eq] at hp
          omega
        · exact e
      refine ⟨hi0, ?_⟩
      rw [getC_drop, show k + (i - 1) = k + i - 1 by omega]
      exact q4.2
    · rw [if_neg c4]
theorem wf_take {l : List Chg} (h : wfChgs l) (k : Nat) : wfChgs (l.take k) := fun c hc => h c (List.mem_of_mem_take hc)
theorem wf_drop {l : List Chg} (h : wfChgs l) (k : Nat) : wfChgs (l.drop k) := fun c hc => h c (List.mem_of_mem_drop hc)
end Go.Proofs.Ytkjiaeolodemlaf.ch
