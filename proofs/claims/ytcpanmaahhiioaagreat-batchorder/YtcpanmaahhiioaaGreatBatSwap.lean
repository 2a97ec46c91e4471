/- Two rows of a list swapped (the statement's own helpers: choose, swapped). -/
import Derived.Test.YtcpanmaahhiioaaGreatMgBatA
import Derived.Test.YtcpanmaahhiioaaGreatMgChgD
import Derived.Test.YtcpanmaahhiioaaGreatMgChgF
namespace Go.Proofs.YtcpanmaahhiioaaGreat.bt
open Go.ChangeShapes Go.WideShapes Go.ChangeAt Go.RowKit
open vl pl
set_option linter.unusedVariables false
set_option linter.unusedSimpArgs false
theorem tmod_below {c : Int} {n : Nat} (hn : 0 < n) (hc : 0 ≤ c) : 0 ≤ c.tmod n ∧ c.tmod n < n :=
  ⟨Int.tmod_nonneg _ hc, Int.tmod_lt_of_pos c (by omega)⟩
set_option maxHeartbeats 1000000 in
theorem choose_any (c : Int) (n : Nat) (w : World) (c1 : -9223372036854775808 ≤ c) (c2 : c ≤ 9223372036854775807) (hn : 0 < n) (hn2 : n ≤ 9223372036854775807) :
    Calls Tryz.prog 68 #[.int .i64 c, .int .i64 n] w fun e w' => (∃ k : Nat, k < n ∧ e = .returned (.int .i64 k)) ∧ w' = w := by
  obtain ⟨m, hm⟩ : ∃ m : Int, (n : Int) = m := ⟨_, rfl⟩
  have m0 : (m == 0) = false := by rw [beq_eq_false_iff_ne]; omega
  have m1 : m ≠ 0 := by omega
  rw [hm]
  by_cases h : c < 0
  · have hw1 : IntKind.i64.wrap (c + 1) = c + 1 := by rw [ch.wrap_is]; omega
    have hw2 : IntKind.i64.wrap (-(c + 1)) = -(c + 1) := by rw [ch.wrap_is]; omega
    have ht := tmod_below (c := -(c + 1)) hn (by omega)
    rw [hm] at ht
    have hw3 : IntKind.i64.wrap ((-(c + 1)).tmod m) = (-(c + 1)).tmod m := by rw [ch.wrap_is]; omega
    have HT : Hid (0 ≤ (-(c + 1)).tmod m ∧ (-(c + 1)).tmod m < m) := ht
    have HM : Hid ((n : Int) = m) := hm
    clear ht hm
    go_enter Tryz.func68, Tryz.ntmps68
    go_wp2
    go_ret
    exact ⟨⟨((-(c + 1)).tmod m).toNat, by have := HT.out; have := HM.out; omega, ret_int (by rw [Int.toNat_of_nonneg HT.out.1, Int.neg_tmod])⟩, rfl⟩
  · have ht := tmod_below (c := c) hn (by omega)
    rw [hm] at ht
    have hw3 : IntKind.i64.wrap (c.tmod m) = c.tmod m := by rw [ch.wrap_is]; omega
    have HT : Hid (0 ≤ c.tmod m ∧ c.tmod m < m) := ht
    have HM : Hid ((n : Int) = m) := hm
    clear ht hm
    go_enter Tryz.func68, Tryz.ntmps68
    go_wp2
    go_ret
    exact ⟨⟨(c.tmod m).toNat, by have := HT.out; have := HM.out; omega, ret_int (by rw [Int.toNat_of_nonneg HT.out.1, Int.tmod_eq_emod_of_nonneg (by omega)])⟩, rfl⟩

/-- the cells of rows with their times, the rows' headers given -/
def flatS (l : List Stm) (H : Nat → Value) (n : Nat) : List Value := (List.range n).flatMap fun i => [.int .i64 (l.getD i default).t, H i]
theorem flatS_succ (l : List Stm) (H : Nat → Value) (n : Nat) : flatS l H (n + 1) = flatS l H n ++ [.int .i64 (l.getD n default).t, H n] := by
  unfold flatS; rw [List.range_succ, List.flatMap_append]; simp
theorem flatS_len (l : List Stm) (H : Nat → Value) (n : Nat) : (flatS l H n).length = n * 2 := by
  induction n with
  | zero => rfl
  | succ n ih => rw [flatS_succ, List.length_append, ih]; simp; omega
theorem flatS_at (l : List Stm) (H : Nat → Value) (n i : Nat) (h : i < n) : (flatS l H n)[i * 2]? = some (.int .i64 (l.getD i default).t) ∧ (flatS l H n)[i * 2 + 1]? = some (H i) := by
  induction n with
  | zero => omega
  | succ n ih =>
    rw [flatS_succ]
    by_cases e : i = n
    · subst e
      have h1 : (flatS l H i).length = i * 2 := flatS_len l H i
      constructor
      · rw [List.getElem?_append_right (by omega), h1]; simp
      · rw [List.getElem?_append_right (by omega), h1, show i * 2 + 1 - i * 2 = 1 by omega]; rfl
    · have h1 : (flatS l H n).length = n * 2 := flatS_len l H n
      rw [List.getElem?_append_left (by omega), List.getElem?_append_left (by omega)]
      exact ih (by omega)
theorem flatS_one (l : List Stm) (H : Nat → Value) (n : Nat) (h : ∀ i, i < n → ∃ a c d, H i = .slice a c d) : ∀ u ∈ flatS l H n, u.oneCell' = true := by
  intro u hu
  obtain ⟨i, hi, hu⟩ := List.mem_flatMap.1 hu
  simp at hu
  rcases hu with rfl | rfl
  · rfl
  · obtain ⟨a, c, d, e⟩ := h i (List.mem_range.1 hi)
    rw [e]; rfl
/-- the headers of rows that lie in memory -/
theorem stms_heads {w : World} {b off : Nat} {l : List Stm} (h : stmsAt w (some ⟨b, off, none⟩) l) : ∃ H : Nat → Value, (∀ i, i < l.length → ∃ ra rc, H i = .slice ra (l.getD i default).r.length rc ∧ vl.rowAt w ra (l.getD i default).r) ∧ ∀ i, i < l.length → w.cell? ⟨b, off + i * 2, none⟩ = some (.int .i64 (l.getD i default).t) ∧ w.cell? ⟨b, off + i * 2 + 1, none⟩ = some (H i) := by
  refine ⟨fun i => (w.cell? ⟨b, off + i * 2 + 1, none⟩).getD (.bool false), fun i hi => ?_, fun i hi => ?_⟩
  · obtain ⟨b', o', ra, rc, e, x, y, z⟩ := h i hi
    cases e
    exact ⟨ra, rc, by show (w.cell? ⟨b, off + i * 2 + 1, none⟩).getD (.bool false) = _; rw [y]; rfl, z⟩
  · obtain ⟨b', o', ra, rc, e, x, y, z⟩ := h i hi
    cases e
    exact ⟨x, by show _ = some ((w.cell? ⟨b, off + i * 2 + 1, none⟩).getD (.bool false)); rw [y]; rfl⟩
theorem stms_cells {w : World} {b off : Nat} {l : List Stm} {H : Nat → Value} {n : Nat} (h : ∀ i, i < n → w.cell? ⟨b, off + i * 2, none⟩ = some (.int .i64 (l.getD i default).t) ∧ w.cell? ⟨b, off + i * 2 + 1, none⟩ = some (H i)) : ∀ j u, (flatS l H n)[j]? = some u → w.cell? ((⟨b, off, none⟩ : Addr).add j) = some u := by
  intro j u hu
  have hlen : j < (flatS l H n).length := by
    rcases Nat.lt_or_ge j (flatS l H n).length with h | h
    · exact h
    · rw [List.getElem?_eq_none h] at hu; cases hu
  rw [flatS_len] at hlen
  have hi : j / 2 < n := by omega
  obtain ⟨x1, x2⟩ := h (j / 2) hi
  obtain ⟨y1, y2⟩ := flatS_at l H n (j / 2) hi
  rw [ch.add_at]
  have hj : j = j / 2 * 2 ∨ j = j / 2 * 2 + 1 := by omega
  rcases hj with e | e
  · rw [e] at hu ⊢; rw [y1] at hu; rw [← hu]; exact x1
  · rw [e] at hu ⊢; rw [y2] at hu; rw [← hu]; exact x2
/-- two of a list swapped -/
def swapL (l : List Stm) (i k : Nat) : List Stm := (l.set i (l.getD k default)).set k (l.getD i default)
theorem swapL_perm (l : List Stm) (i k : Nat) (hi : i < l.length) (hk : k < l.length) : (swapL l i k).Perm l := by
  unfold swapL
  have e1 : l.getD k default = l[k] := by simp [List.getD_eq_getElem?_getD, hk]
  have e2 : l.getD i default = l[i] := by simp [List.getD_eq_getElem?_getD, hi]
  rw [e1, e2]
  exact List.set_set_perm hi hk
theorem swapL_at (l : List Stm) (i k q : Nat) (hi : i < l.length) (hk : k < l.length) (hq : q < l.length) : (swapL l i k).getD q default = if q = k then l.getD i default else if q = i then l.getD k default else l.getD q default := by
  unfold swapL
  simp only [List.getD_eq_getElem?_getD, List.getElem?_set, List.length_set]
  by_cases h1 : q = k
  · subst h1
    rw [if_pos rfl, if_pos hk, if_pos rfl]; rfl
  · rw [if_neg (fun e => h1 e.symm), if_neg h1]
    by_cases h2 : q = i
    · subst h2
      rw [if_pos rfl, if_pos hi, if_pos rfl]; rfl
    · rw [if_neg (fun e => h2 e.symm), if_neg h2]
theorem swapL_len (l : List Stm) (i k : Nat) : (swapL l i k).length = l.length := by unfold swapL; rw [List.length_set, List.length_set]
/-- what lies in memory behind the stores -/
theorem swap_at {w0 w' : World} {g n : Nat} {l : List Stm} {H : Nat → Value} {i k : Nat} (hn : l.length = n) (hi : i < n) (hk : k < n) (hh : ∀ i, i < n → ∃ ra rc, H i = .slice ra (l.getD i default).r.length rc ∧ vl.rowAt w' ra (l.getD i default).r)
    (hc : ∀ q, q < n → w'.cell? ⟨g, q * 2, none⟩ = some (.int .i64 (l.getD (if q = k then i else if q = i then k else q) default).t) ∧ w'.cell? ⟨g, q * 2 + 1, none⟩ = some (H (if q = k then i else if q = i then k else q))) : stmsAt w' (some ⟨g, 0, none⟩) (swapL l i k) := by
  intro q hq
  rw [swapL_len, hn] at hq
  obtain ⟨c1, c2⟩ := hc q hq
  have hz : (if q = k then i else if q = i then k else q) < n := by split; exact hi; split; exact hk; exact hq
  have e : (swapL l i k).getD q default = l.getD (if q = k then i else if q = i then k else q) default := by
    rw [swapL_at l i k q (by omega) (by omega) (by omega)]
    split
    · rfl
    · split <;> rfl
  obtain ⟨ra, rc, h1, h2⟩ := hh _ hz
  refine ⟨g, 0, ra, rc, rfl, ?_, ?_, ?_⟩
  · rw [Nat.zero_add, e]; exact c1
  · rw [Nat.zero_add, e, c2, h1]
  · rw [e]; exact h2
theorem infoS : (Tryz.prog.info? 53).map (fun i => (i.zero, i.size, i.bytes)) = some (some (.agg #[.int .i64 0, .slice none 0 0]), 2, 32) := by kernel_rfl
end Go.Proofs.YtcpanmaahhiioaaGreat.bt
