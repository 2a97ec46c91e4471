/- Views in memory; gather lays a view's counts into a map, or tells that the view is not right. -/
import Derived.Test.YtkjiaeolodemlafChgFrame
namespace Go.Proofs.Ytkjiaeolodemlaf.ch
open Go.ChangeShapes Go.WideShapes Go.ChangeAt Go.RowKit Go.Maps Go.WideMaps
open vl
set_option linter.unusedVariables false
set_option linter.unusedSimpArgs false

/-- a row of a view, and how often it stands there -/
structure Cnt where
  r : List Cel
  n : Int
instance : Inhabited Cnt := ⟨⟨[], 0⟩⟩
def viewAt (w : World) (a : Option Addr) (v : List Cnt) : Prop :=
  ∀ i, i < v.length → ∃ b off ra rc, a = some ⟨b, off, none⟩ ∧ w.cell? ⟨b, off + i * 2, none⟩ = some (.slice ra (v.getD i default).r.length rc) ∧ vl.rowAt w ra (v.getD i default).r ∧ w.cell? ⟨b, off + i * 2 + 1, none⟩ = some (.int .i64 (v.getD i default).n)
def wfView (v : List Cnt) : Prop := ∀ c ∈ v, wfRow c.r ∧ c.r.length ≤ 9223372036854775807 ∧ (-9223372036854775808 ≤ c.n ∧ c.n ≤ 9223372036854775807)
theorem wfv_at {v : List Cnt} (h : wfView v) (k : Nat) (hk : k < v.length) : wfRow (v.getD k default).r ∧ (v.getD k default).r.length ≤ 9223372036854775807 ∧ (-9223372036854775808 ≤ (v.getD k default).n ∧ (v.getD k default).n ≤ 9223372036854775807) :=
  h _ (by simp [List.getD_eq_getElem?_getD, hk])
theorem viewAt_below {w w' : World} {a : Option Addr} {v : List Cnt} (h : viewAt w a v) (hb : Below w.heap.size w w') : viewAt w' a v := by
  intro i hi
  obtain ⟨b, o, ra, rc, e, x1, x2, x3⟩ := h i hi
  exact ⟨b, o, ra, rc, e, cell_later hb x1, rowAt_below x2 hb, cell_later hb x3⟩

def okAt (v : List Cnt) (i : Nat) : Prop :=
  keyErr (v.getD i default).r = 0 ∧ 1 ≤ (v.getD i default).n ∧ (v.getD i default).n ≤ 1073741824 ∧ (0 < i → cmpRows (v.getD (i - 1) default).r (v.getD i default).r < 0)
def viewOk (v : List Cnt) : Prop := v.length ≤ 4096 ∧ ∀ i, i < v.length → okAt v i
instance (v : List Cnt) (i : Nat) : Decidable (okAt v i) := by unfold okAt; infer_instance
instance (v : List Cnt) : Decidable (viewOk v) := by unfold viewOk; infer_instance
def viewErr (v : List Cnt) : Int := if 4096 < v.length then 2 else if viewOk v then 0 else 1
theorem viewErr_many {v : List Cnt} (h : 4096 < v.length) : viewErr v = 2 := by unfold viewErr; rw [if_pos h]
theorem viewErr_ok {v : List Cnt} (h : viewOk v) : viewErr v = 0 := by
  have h1 := h.1
  unfold viewErr; rw [if_neg (by omega), if_pos h]
theorem viewErr_bad {v : List Cnt} (h1 : ¬ 4096 < v.length) (i : Nat) (hi : i < v.length) (h : ¬ okAt v i) : viewErr v = 1 := by
  unfold viewErr; rw [if_neg h1, if_neg (fun hv => h (hv.2 i hi))]

/-- the counts of a view, by keys -/
def kvOf (v : List Cnt) : KV := v.map fun c => (encR c.r, c.n)
theorem putK_last {kv : KV} {k : List UInt8} {n : Int} (h : ∀ p ∈ kv, bytesBefore p.1 k = true) : putK kv k n = kv ++ [(k, n)] := by
  have hd : delK kv k = kv := by
    unfold delK
    rw [List.filter_eq_self]
    intro p hp
    have h1 := h p hp
    by_cases e : p.1 = k
    · rw [e, before_lt] at h1
      exact absurd (of_decide_eq_true h1) (List.lt_irrefl k)
    · simpa using e
  unfold putK
  rw [hd]
  clear hd
  induction kv with
  | nil => rfl
  | cons y r ih =>
    rw [insK]
    have h1 := h y (List.mem_cons_self ..)
    have h2 : bytesBefore k y.1 = false := by
      rw [before_lt] at h1 ⊢
      exact decide_eq_false (List.lt_asymm (of_decide_eq_true h1))
    rw [h2, if_neg (by decide), ih (fun p hp => h p (List.mem_cons_of_mem _ hp))]
    rfl
theorem kvOf_snoc (v : List Cnt) (c : Cnt) : kvOf (v ++ [c]) = kvOf v ++ [(encR c.r, c.n)] := by simp [kvOf]
theorem takeV (v : List Cnt) (k : Nat) (h : k < v.length) : v.take (k + 1) = v.take k ++ [v.getD k default] := by
  rw [List.take_succ_eq_append_getElem h]; simp [List.getD_eq_getElem?_getD, h]

theorem before_of_cmp {a b : List Cel} (ha : rowOk a) (hb : rowOk b) (h : cmpRows a b < 0) : bytesBefore (encR a) (encR b) = true := by
  have h1 := cmpB_rows a b ha.2 hb.2
  have h2 := less_cmp (encR a) (encR b)
  rw [before_lt]
  rw [h1] at h2
  rw [h2] at h
  split at h
  · rename_i hl
    rw [less_lt] at hl
    exact hl
  · split at h <;> omega

theorem ok_row {v : List Cnt} {i : Nat} (hw : wfView v) (hi : i < v.length) (h : okAt v i) : rowOk (v.getD i default).r := by
  have h1 := h.1
  unfold keyErr at h1
  split at h1
  · cases h1
  · rename_i h8
    exact ⟨by omega, fun c hc => ⟨all_ok h1 c hc, (wfv_at hw i hi).1 c hc⟩⟩
theorem before_trans {a b c : List UInt8} (h1 : bytesBefore a b = true) (h2 : bytesBefore b c = true) : bytesBefore a c = true := by
  rw [before_lt] at *
  exact decide_eq_true (List.lt_trans (of_decide_eq_true h1) (of_decide_eq_true h2))
/-- the keys of a right view rise -/
theorem kv_before {v : List Cnt} (hw : wfView v) (k : Nat) (hk : k < v.length) (h : ∀ i, i ≤ k → okAt v i) : ∀ i, i < k → bytesBefore (encR (v.getD i default).r) (encR (v.getD k default).r) = true := by
  induction k with
  | zero => intro i hi; exact absurd hi (Nat.not_lt_zero i)
  | succ k ih =>
    intro i hi
    have hstep : bytesBefore (encR (v.getD k default).r) (encR (v.getD (k + 1) default).r) = true := by
      have h1 := h (k + 1) (Nat.le_refl _)
      exact before_of_cmp (ok_row hw (by omega) (h k (by omega))) (ok_row hw hk h1) (by have := h1.2.2.2 (by omega); simpa using this)
    rcases Nat.lt_succ_iff_lt_or_eq.1 hi with h1 | h1
    · exact before_trans (ih (by omega) (fun j hj => h j (by omega)) i h1) hstep
    · rw [h1]; exact hstep
theorem getD_take (v : List Cnt) (k i : Nat) (h : i < k) : (v.take k).getD i default = v.getD i default := by
  simp only [List.getD_eq_getElem?_getD, List.getElem?_take]
  rw [if_pos h]
theorem kv_all {v : List Cnt} (hw : wfView v) (k : Nat) (hk : k < v.length) (h : ∀ i, i ≤ k → okAt v i) : ∀ p ∈ kvOf (v.take k), bytesBefore p.1 (encR (v.getD k default).r) = true := by
  intro p hp
  unfold kvOf at hp
  obtain ⟨c, hc, rfl⟩ := List.mem_map.1 hp
  obtain ⟨i, hi, rfl⟩ := List.getElem_of_mem hc
  rw [List.length_take] at hi
  have e : (v.take k)[i]'(by rw [List.length_take]; omega) = v.getD i default := by
    rw [List.getElem_take]
    simp [List.getD_eq_getElem?_getD, show i < v.length by omega]
  rw [e]
  exact kv_before hw k hk h i (by omega)
theorem kv_step {v : List Cnt} (hw : wfView v) (k : Nat) (hk : k < v.length) (h : ∀ i, i ≤ k → okAt v i) : putK (kvOf (v.take k)) (encR (v.getD k default).r) (v.getD k default).n = kvOf (v.take (k + 1)) := by
  rw [putK_last (kv_all hw k hk h), takeV v k hk, kvOf_snoc]
theorem kv_rising {v : List Cnt} (hw : wfView v) (h : viewOk v) : rising (kvOf v) := by
  unfold rising kvOf
  rw [List.pairwise_map, List.pairwise_iff_getElem]
  intro i j hi hj hij
  have e1 : v[i] = v.getD i default := by simp [List.getD_eq_getElem?_getD, hi]
  have e2 : v[j] = v.getD j default := by simp [List.getD_eq_getElem?_getD, hj]
  rw [e1, e2]
  exact kv_before hw j hj (fun m hm => h.2 m (by omega)) i hij
end Go.Proofs.Ytkjiaeolodemlaf.ch
