/- Counts as functions of keys: what add does to them, and that good counts are what they tell of each key. -/
import Derived.Test.YtkjiaeolodemlaeChgAll
import Derived.Test.YtkjiaeolodemlaeChgNet
namespace Go.Proofs.Ytkjiaeolodemlae.ch
open Go.ChangeShapes Go.WideShapes Go.ChangeAt Go.RowKit Go.Maps Go.WideMaps
open vl
set_option linter.unusedVariables false
set_option linter.unusedSimpArgs false

theorem getK_cons (p : List UInt8 × Int) (r : KV) (k : List UInt8) : getK (p :: r) k = if p.1 = k then p.2 else getK r k := by
  unfold getK
  by_cases h : p.1 = k
  · rw [if_pos h, List.find?_cons_of_pos (by simpa using h)]
  · rw [if_neg h, List.find?_cons_of_neg (by simpa using h)]
theorem getK_ins (x : List UInt8 × Int) (l : KV) (k : List UInt8) (h : ∀ p ∈ l, p.1 ≠ x.1) : getK (insK x l) k = if x.1 = k then x.2 else getK l k := by
  induction l with
  | nil => rw [insK, getK_cons]
  | cons y r ih =>
    rw [insK]
    split
    · rw [getK_cons]
    · rw [getK_cons, ih (fun p hp => h p (List.mem_cons_of_mem _ hp)), getK_cons]
      have hy := h y (List.mem_cons_self ..)
      by_cases e1 : y.1 = k
      · rw [if_pos e1, if_pos e1, if_neg (fun e => hy (e1.trans e.symm))]
      · rw [if_neg e1, if_neg e1]
theorem getK_del (l : KV) (k k' : List UInt8) : getK (delK l k) k' = if k' = k then 0 else getK l k' := by
  by_cases h : k' = k
  · rw [if_pos h]
    exact getK_none (fun p hp => by rw [h]; exact (mem_del.1 hp).2)
  · rw [if_neg h]
    induction l with
    | nil => rfl
    | cons y r ih =>
      unfold delK at ih ⊢
      by_cases e : y.1 = k
      · rw [List.filter_cons_of_neg (by simpa using e), ih, getK_cons, if_neg (fun e2 => h (e2.symm.trans e))]
      · rw [List.filter_cons_of_pos (by simpa using e), getK_cons, ih, getK_cons]
theorem getK_put (l : KV) (k k' : List UInt8) (n : Int) : getK (putK l k n) k' = if k' = k then n else getK l k' := by
  unfold putK
  rw [getK_ins _ _ _ (fun p hp => (mem_del.1 hp).2), getK_del]
  by_cases h : k' = k
  · subst h; rw [if_pos rfl, if_pos rfl]
  · rw [if_neg (fun e => h e.symm), if_neg h, if_neg h]

theorem addE_zero {kv : KV} {k : List UInt8} {d : Int} : addE kv k d = 0 ↔ 0 ≤ getK kv k + d ∧ getK kv k + d ≤ 1073741824 ∧ (getK kv k + d = 0 ∨ getK kv k ≠ 0 ∨ kv.length ≠ 4096) := by
  unfold addE
  constructor
  · intro h
    split at h
    · cases h
    · split at h
      · cases h
      · split at h
        · exact ⟨by omega, by omega, .inl ‹_›⟩
        · split at h
          · cases h
          · rename_i h4
            refine ⟨by omega, by omega, ?_⟩
            by_cases e : getK kv k = 0
            · exact .inr (.inr (fun e2 => h4 ⟨e, e2⟩))
            · exact .inr (.inl e)
  · rintro ⟨h1, h2, h3⟩
    rw [if_neg (by omega), if_neg (by omega)]
    split
    · rfl
    · rename_i h4
      rw [if_neg]
      rintro ⟨e1, e2⟩
      rcases h3 with h | h | h
      · exact h4 h
      · exact h e1
      · exact h e2
theorem addV_get {kv : KV} {k : List UInt8} {d : Int} (h : addE kv k d = 0) (k' : List UInt8) : getK (addV kv k d) k' = getK kv k' + if k' = k then d else 0 := by
  obtain ⟨h1, h2, h3⟩ := addE_zero.1 h
  unfold addV
  rw [if_neg (by omega), if_neg (by omega)]
  split
  · rename_i h4
    rw [getK_del]
    by_cases e : k' = k
    · rw [if_pos e, if_pos e, e]; omega
    · rw [if_neg e, if_neg e]; omega
  · rename_i h4
    rw [if_neg]
    · rw [getK_put]
      by_cases e : k' = k
      · rw [if_pos e, if_pos e, e]
      · rw [if_neg e, if_neg e]; omega
    · rintro ⟨e1, e2⟩
      rcases h3 with h | h | h
      · exact h4 h
      · exact h e1
      · exact h e2

theorem getK_low {p : List UInt8 × Int} {r : KV} {k : List UInt8} (h : rising (p :: r)) (hk : bytesBefore k p.1 = true) : getK (p :: r) k = 0 := by
  refine getK_none ?_
  have h1 := List.pairwise_cons.1 h
  intro q hq e
  rw [← e] at hk
  rcases List.mem_cons.1 hq with e2 | hq
  · rw [e2, before_irrefl] at hk; cases hk
  · have := before_trans hk (h1.1 q hq)
    rw [before_irrefl] at this; cases this
theorem getK_tail {p : List UInt8 × Int} {r : KV} (h : rising (p :: r)) : getK r p.1 = 0 := by
  refine getK_none ?_
  intro q hq e
  have := (List.pairwise_cons.1 h).1 q hq
  rw [e, before_irrefl] at this; cases this
/-- counts that tell the same of each key are the same -/
theorem kv_ext {a b : KV} (ha : rising a) (hb : rising b) (na : ∀ p ∈ a, p.2 ≠ 0) (nb : ∀ p ∈ b, p.2 ≠ 0) (h : ∀ k, getK a k = getK b k) : a = b := by
  induction a generalizing b with
  | nil => cases b with
    | nil => rfl
    | cons q s =>
      have := h q.1
      rw [getK_of hb (List.mem_cons_self ..)] at this
      exact absurd this.symm (nb q (List.mem_cons_self ..))
  | cons p r ih => cases b with
    | nil =>
      have := h p.1
      rw [getK_of ha (List.mem_cons_self ..)] at this
      exact absurd this (na p (List.mem_cons_self ..))
    | cons q s =>
      have hp := getK_of ha (List.mem_cons_self (a := p) (l := r))
      have hq := getK_of hb (List.mem_cons_self (a := q) (l := s))
      have e : p.1 = q.1 := by
        refine Classical.byContradiction fun hne => ?_
        cases hpq : bytesBefore p.1 q.1 with
        | true =>
          have := getK_low hb hpq
          rw [← h, hp] at this
          exact na p (List.mem_cons_self ..) this
        | false =>
          have := getK_low ha (before_total _ _ hpq hne)
          rw [h, hq] at this
          exact nb q (List.mem_cons_self ..) this
      have e2 : p.2 = q.2 := by rw [← hp, ← hq, h, e]
      have hpe : p = q := Prod.ext e e2
      subst hpe
      rw [ih (List.pairwise_cons.1 ha).2 (List.pairwise_cons.1 hb).2 (fun x hx => na x (List.mem_cons_of_mem _ hx)) (fun x hx => nb x (List.mem_cons_of_mem _ hx)) (fun k => by
        have := h k
        rw [getK_cons, getK_cons] at this
        by_cases e : p.1 = k
        · rw [← e, getK_tail ha, getK_tail hb]
        · rwa [if_neg e, if_neg e] at this)]
theorem good_ext {a b : KV} (ha : good a) (hb : good b) (h : ∀ k, getK a k = getK b k) : a = b :=
  kv_ext ha.up hb.up (fun p hp => by have := ha.cnt p hp; omega) (fun p hp => by have := hb.cnt p hp; omega) h
/-- where one's keys are another's, it is no longer -/
theorem len_sub {a b : KV} (ha : rising a) (h : ∀ p ∈ a, ∃ q ∈ b, q.1 = p.1) : a.length ≤ b.length := by
  induction a generalizing b with
  | nil => exact Nat.zero_le _
  | cons p r ih =>
    have h1 := List.pairwise_cons.1 ha
    have h2 := ih (b := delK b p.1) h1.2 (fun q hq => by
      obtain ⟨x, hx, e⟩ := h q (List.mem_cons_of_mem _ hq)
      refine ⟨x, mem_del.2 ⟨hx, fun e2 => ?_⟩, e⟩
      have := h1.1 q hq
      rw [← e, e2, before_irrefl] at this; cases this)
    have h3 : (delK b p.1).length < b.length := by
      obtain ⟨x, hx, e⟩ := h p (List.mem_cons_self ..)
      unfold delK
      rw [List.length_filter_lt_length_iff_exists]
      exact ⟨x, hx, by simp [e]⟩
    rw [List.length_cons]; omega
theorem mem_of_pos {kv : KV} {k : List UInt8} (h : getK kv k ≠ 0) : ∃ q ∈ kv, q.1 = k := ⟨_, getK_mem h, rfl⟩

/-- how much changes move a key's count -/
def sumK : List Chg → List UInt8 → Int
  | [], _ => 0
  | c :: l, k => (if k = encR c.r then moreOf c.k else 0) + sumK l k
theorem sumK_app (l m : List Chg) (k : List UInt8) : sumK (l ++ m) k = sumK l k + sumK m k := by
  induction l with
  | nil => simp [sumK]
  | cons c r ih => rw [List.cons_append, sumK, ih, sumK]; omega
theorem sumK_one (c : Chg) (k : List UInt8) : sumK [c] k = if k = encR c.r then moreOf c.k else 0 := by simp [sumK]
theorem at_get {kv : KV} {l : List Chg} (i : Nat) (hi : i ≤ l.length) (h : ∀ j, j < i → errK kv l j = 0) (k : List UInt8) : getK (atK kv l i) k = getK kv k + sumK (l.take i) k := by
  induction i with
  | zero => simp [atK, sumK]
  | succ i ih =>
    rw [atK_succ kv l i (by omega), addV_get (h i (by omega)), ih (by omega) (fun j hj => h j (by omega)), takeC l i (by omega), sumK_app, sumK_one]
    omega
theorem net_get_sum (l : List Chg) (k : List UInt8) : getK (netK l) k = sumK l k := by
  suffices h : ∀ i, i ≤ l.length → getK (netK (l.take i)) k = sumK (l.take i) k by
    have := h l.length (Nat.le_refl _)
    rwa [List.take_length] at this
  intro i
  induction i with
  | zero => intro _; rfl
  | succ i ih =>
    intro hi
    rw [net_succ l i (by omega), getK_put, takeC l i (by omega), sumK_app, sumK_one]
    have := ih (by omega)
    by_cases e : k = encR (l.getD i default).r
    · rw [if_pos e, if_pos e, ← e, this]
    · rw [if_neg e, if_neg e, this]; omega
/-- how many changes are of a key -/
def cntK (l : List Chg) (k : List UInt8) : Nat := (l.filter fun c => encR c.r == k).length
theorem cntK_app (l m : List Chg) (k : List UInt8) : cntK (l ++ m) k = cntK l k + cntK m k := by unfold cntK; rw [List.filter_append, List.length_append]
theorem cntK_take (l : List Chg) (i : Nat) (k : List UInt8) : cntK (l.take i) k ≤ cntK l k := by
  have := cntK_app (l.take i) (l.drop i) k
  rw [List.take_append_drop] at this
  omega
theorem cntK_rep (m : Nat) (x : Int) (r : List Cel) (k : List UInt8) : cntK (List.replicate m ⟨x, r⟩) k = if encR r = k then m else 0 := by
  unfold cntK
  by_cases e : encR r = k
  · rw [if_pos e, List.filter_replicate_of_pos (by simpa using e), List.length_replicate]
  · rw [if_neg e, List.filter_replicate_of_neg (by simpa using e)]; rfl
theorem cntK_dels {out : List Cnt} (hr : rising (kvOf out)) (k : List UInt8) : cntK (dels out) k = (-(getK (kvOf out) k)).toNat := by
  induction out with
  | nil => rfl
  | cons c r ih =>
    have hr' : rising ((encR c.r, c.n) :: kvOf r) := hr
    have e : dels (c :: r) = List.replicate (-c.n).toNat ⟨2, c.r⟩ ++ dels r := rfl
    have e2 : kvOf (c :: r) = (encR c.r, c.n) :: kvOf r := rfl
    rw [e, cntK_app, cntK_rep, ih (List.pairwise_cons.1 hr').2, e2, getK_cons]
    by_cases h : encR c.r = k
    · have := getK_tail hr'
      dsimp only at this
      rw [if_pos h, if_pos h, ← h, this]; simp
    · rw [if_neg h, if_neg h]; omega
theorem cntK_inss {out : List Cnt} (hr : rising (kvOf out)) (k : List UInt8) : cntK (inss out) k = (getK (kvOf out) k).toNat := by
  induction out with
  | nil => rfl
  | cons c r ih =>
    have hr' : rising ((encR c.r, c.n) :: kvOf r) := hr
    have e : inss (c :: r) = List.replicate c.n.toNat ⟨1, c.r⟩ ++ inss r := rfl
    have e2 : kvOf (c :: r) = (encR c.r, c.n) :: kvOf r := rfl
    rw [e, cntK_app, cntK_rep, ih (List.pairwise_cons.1 hr').2, e2, getK_cons]
    by_cases h : encR c.r = k
    · have := getK_tail hr'
      dsimp only at this
      rw [if_pos h, if_pos h, ← h, this]; simp
    · rw [if_neg h, if_neg h]; omega
theorem sum_dels {l : List Chg} (h : ∀ c ∈ l, c.k = 2) (k : List UInt8) : sumK l k = -(cntK l k : Int) := by
  induction l with
  | nil => rfl
  | cons c r ih =>
    have hm : moreOf c.k = -1 := by rw [h c (List.mem_cons_self ..)]; decide
    rw [sumK, ih (fun x hx => h x (List.mem_cons_of_mem _ hx)), hm]
    unfold cntK
    by_cases e : k = encR c.r
    · rw [if_pos e, List.filter_cons_of_pos (by simpa using e.symm), List.length_cons]; omega
    · rw [if_neg e, List.filter_cons_of_neg (by simpa using fun h : encR c.r = k => e h.symm)]; omega
theorem sum_inss {l : List Chg} (h : ∀ c ∈ l, c.k = 1) (k : List UInt8) : sumK l k = (cntK l k : Int) := by
  induction l with
  | nil => rfl
  | cons c r ih =>
    have hm : moreOf c.k = 1 := by rw [h c (List.mem_cons_self ..)]; decide
    rw [sumK, ih (fun x hx => h x (List.mem_cons_of_mem _ hx)), hm]
    unfold cntK
    by_cases e : k = encR c.r
    · rw [if_pos e, List.filter_cons_of_pos (by simpa using e.symm), List.length_cons]; omega
    · rw [if_neg e, List.filter_cons_of_neg (by simpa using fun h : encR c.r = k => e h.symm)]; omega
theorem dels_mem {out : List Cnt} {c : Chg} (h : c ∈ dels out) : c.k = 2 ∧ ∃ d ∈ out, c.r = d.r ∧ d.n < 0 := by
  obtain ⟨d, hd, hc⟩ := List.mem_flatMap.1 h
  obtain ⟨h1, h2⟩ := List.mem_replicate.1 hc
  subst h2
  exact ⟨rfl, d, hd, rfl, by omega⟩
theorem inss_mem {out : List Cnt} {c : Chg} (h : c ∈ inss out) : c.k = 1 ∧ ∃ d ∈ out, c.r = d.r ∧ 0 < d.n := by
  obtain ⟨d, hd, hc⟩ := List.mem_flatMap.1 h
  obtain ⟨h1, h2⟩ := List.mem_replicate.1 hc
  subst h2
  exact ⟨rfl, d, hd, rfl, by omega⟩
/-- what a front of the made changes moves -/
theorem sum_front {out : List Cnt} (hr : rising (kvOf out)) (i : Nat) (k : List UInt8) :
    (i ≤ (dels out).length → sumK ((dels out ++ inss out).take i) k ≤ 0 ∧ (getK (kvOf out) k ≤ sumK ((dels out ++ inss out).take i) k ∨ 0 ≤ sumK ((dels out ++ inss out).take i) k)) ∧
    ((dels out).length ≤ i → sumK ((dels out ++ inss out).take i) k ≤ getK (kvOf out) k ∧ (sumK ((dels out ++ inss out).take i) k = getK (kvOf out) k ∨ 0 ≤ sumK ((dels out ++ inss out).take i) k)) := by
  constructor
  · intro hi
    rw [List.take_append_of_le_length hi, sum_dels (fun c hc => (dels_mem (List.mem_of_mem_take hc)).1)]
    have := cntK_take (dels out) i k
    rw [cntK_dels hr] at this
    omega
  · intro hi
    rw [List.take_append, List.take_of_length_le hi, sumK_app, sum_dels (fun c hc => (dels_mem hc).1), sum_inss (fun c hc => (inss_mem (List.mem_of_mem_take hc)).1), cntK_dels hr]
    have := cntK_take (inss out) (i - (dels out).length) k
    rw [cntK_inss hr] at this
    omega
theorem sum_all {out : List Cnt} (hr : rising (kvOf out)) (k : List UInt8) : sumK (dels out ++ inss out) k = getK (kvOf out) k := by
  rw [sumK_app, sum_dels (fun c hc => (dels_mem hc).1), sum_inss (fun c hc => (inss_mem hc).1), cntK_dels hr, cntK_inss hr]
  omega
end Go.Proofs.Ytkjiaeolodemlae.ch
