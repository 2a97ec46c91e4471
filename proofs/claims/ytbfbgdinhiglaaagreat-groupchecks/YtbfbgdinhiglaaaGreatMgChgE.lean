/- Several texts in one: ChgAll, ChgNet, ChgSum. -/
import Derived.Test.YtbfbgdinhiglaaaGreatMgChgC
import Derived.Test.YtbfbgdinhiglaaaGreatMgChgD
import Derived.Laws.AppendOwnNone
/- each, with changes' closure; and changes: Deletes of the counts below 0, Inserts of those above, in memory of their own. -/
namespace Go.Proofs.YtbfbgdinhiglaaaGreat.ch
open Go.ChangeShapes Go.WideShapes Go.ChangeAt Go.RowKit Go.Maps Go.WideMaps Go.Sort
open vl
set_option linter.unusedVariables false
set_option linter.unusedSimpArgs false

def dels (out : List Cnt) : List Chg := out.flatMap fun c => List.replicate (-c.n).toNat ⟨2, c.r⟩
def inss (out : List Cnt) : List Chg := out.flatMap fun c => List.replicate c.n.toNat ⟨1, c.r⟩
theorem dels_snoc (v : List Cnt) (c : Cnt) : dels (v ++ [c]) = dels v ++ List.replicate (-c.n).toNat ⟨2, c.r⟩ := by
  unfold dels; rw [List.flatMap_append]; simp
theorem inss_snoc (v : List Cnt) (c : Cnt) : inss (v ++ [c]) = inss v ++ List.replicate c.n.toNat ⟨1, c.r⟩ := by
  unfold inss; rw [List.flatMap_append]; simp
theorem dels_take (v : List Cnt) (k : Nat) : (dels (v.take k)).length ≤ (dels v).length := by
  have : dels v = dels (v.take k) ++ dels (v.drop k) := by
    unfold dels; rw [← List.flatMap_append, List.take_append_drop]
  rw [this, List.length_append]; omega
theorem inss_take (v : List Cnt) (k : Nat) : (inss (v.take k)).length ≤ (inss v).length := by
  have : inss v = inss (v.take k) ++ inss (v.drop k) := by
    unfold inss; rw [← List.flatMap_append, List.take_append_drop]
  rw [this, List.length_append]; omega
theorem nil_new (N : Nat) : newer N (.slice none 0 0) := fun g h => by cases h

theorem rowsC_app {w : World} {base : Nat} {no : Nat → Prop} {p q : List (Int × Value)} {l m : List Chg} (h : rowsC w base no p l) (k : rowsC w base no q m) (hp : p.length = l.length) : rowsC w base no (p ++ q) (l ++ m) := by
  intro i hi
  by_cases hlt : i < l.length
  · have := h i hlt
    simp only [List.getD_eq_getElem?_getD] at this ⊢
    rw [List.getElem?_append_left hlt, List.getElem?_append_left (by omega)]
    exact this
  · rw [List.length_append] at hi
    have := k (i - l.length) (by omega)
    simp only [List.getD_eq_getElem?_getD] at this ⊢
    rw [List.getElem?_append_right (by omega), List.getElem?_append_right (by omega), hp]
    exact this
theorem flatC_app (p q : List (Int × Value)) : flatC (p ++ q) = flatC p ++ flatC q := by unfold flatC; rw [List.flatMap_append]
theorem flatC_one {p : List (Int × Value)} (h : ∀ x ∈ p, x.2.oneCell' = true) : ∀ u ∈ flatC p, u.oneCell' = true := by
  intro u hu
  unfold flatC at hu
  obtain ⟨x, hx, hu⟩ := List.mem_flatMap.1 hu
  simp at hu
  rcases hu with rfl | rfl
  · rfl
  · exact h x hx
theorem rowsC_one {w : World} {base : Nat} {no : Nat → Prop} {p : List (Int × Value)} {l : List Chg} (h : rowsC w base no p l) (hp : p.length = l.length) : ∀ x ∈ p, x.2.oneCell' = true := by
  intro x hx
  obtain ⟨i, hi, rfl⟩ := List.getElem_of_mem hx
  obtain ⟨_, ad, cap, e2, _, _⟩ := h i (by omega)
  rw [List.getD_eq_getElem?_getD, List.getElem?_eq_getElem hi, Option.getD_some] at e2
  rw [e2]; rfl
/-- changes that were made lie where their slice begins -/
theorem CR_chgs {w : World} {base : Nat} {ad : Option Addr} {cap : Nat} {no : Nat → Prop} {l : List Chg} {n : Nat} (h : CR w base (.slice ad n cap) no l) : chgsAt w ad l ∧ n = l.length := by
  obtain ⟨p, hpl, hpo, hpr⟩ := h
  obtain ⟨ad', cap', hv, _⟩ := row_form hpo
  have hn : n = p.length := by injection hv
  refine ⟨?_, by omega⟩
  intro i hi
  obtain ⟨e1, ra, rc, e2, e3, _⟩ := hpr i hi
  rcases hpo.2 with ⟨hv, h0⟩ | ⟨g, cap', cur, hv, h1, hg, h2⟩
  · omega
  · injection hv with ha _ _
    subst ha
    have hc := World.ownsRow.cells hpo (g := g) rfl
    have f0 := flatC_at p i (by omega)
    refine ⟨g, 0, ra, rc, rfl, ?_, ?_, ownV_row e3⟩
    · have := hc _ _ f0.1; rw [addr_add, e1] at this; exact this
    · have := hc _ _ f0.2; rw [addr_add, e2] at this; exact this
end Go.Proofs.YtbfbgdinhiglaaaGreat.ch

/- changes, and Net: what is left of changes. -/
namespace Go.Proofs.YtbfbgdinhiglaaaGreat.ch
open Go.ChangeShapes Go.WideShapes Go.ChangeAt Go.RowKit Go.Maps Go.WideMaps Go.Sort
open vl
set_option linter.unusedVariables false
set_option linter.unusedSimpArgs false

theorem TS_start (w : World) : TS ((w.alloc (.cells #[.slice none 0 0] 36)).alloc (.cells #[.slice none 0 0] 36)) w.heap.size (w.heap.size + 1) w.heap.size (.slice none 0 0) (.slice none 0 0) [] [] := by
  refine ⟨by go_simp, by go_simp, by go_simp, by go_simp, by omega, fun e => (by cases e), fun e => (by cases e), fun e => (by cases e), fun e => (by cases e), fun g e => (by cases e), by simp; omega, ?_, ?_⟩
  · exact ⟨[], rfl, ⟨rfl, .inl ⟨rfl, rfl⟩⟩, fun i hi => absurd hi (Nat.not_lt_zero i)⟩
  · exact ⟨[], rfl, ⟨rfl, .inl ⟨rfl, rfl⟩⟩, fun i hi => absurd hi (Nat.not_lt_zero i)⟩
theorem ret_slice {ad : Option Addr} {cap a b : Nat} (h : a = b) : Ending.returned (.slice ad a cap) = .returned (.slice ad b cap) := by rw [h]
theorem fr2_below {w w2 : World} {o p : Obj} (h : fr2 w.heap.size (w.heap.size + 1) ((w.alloc o).alloc p).heap.size ((w.alloc o).alloc p) w2) : Below w.heap.size w w2 := by
  have hb : Below w.heap.size w ((w.alloc o).alloc p) := ((Below.refl _ _).alloc (Nat.le_refl _) _).alloc (by simp) _
  exact ⟨h.os.trans hb.os, h.tape.trans hb.tape, h.output.trans hb.output, Nat.le_trans hb.size h.size, fun b hlt => (h.block b (by simp; omega) (by omega) (by omega)).trans (hb.block b hlt)⟩

/-- what is left of changes, as counts -/
def netS (kv : KV) (c : Chg) : KV := putK kv (encR c.r) (getK kv (encR c.r) + moreOf c.k)
def netK (l : List Chg) : KV := l.foldl netS []
theorem net_succ (l : List Chg) (i : Nat) (h : i < l.length) : netK (l.take (i + 1)) = putK (netK (l.take i)) (encR (l.getD i default).r) (getK (netK (l.take i)) (encR (l.getD i default).r) + moreOf (l.getD i default).k) := by
  unfold netK
  rw [takeC l i h, List.foldl_append]
  rfl
structure net (i : Nat) (kv : KV) : Prop where
  up : rising kv
  len : kv.length ≤ i
  cnt : ∀ p ∈ kv, -(i : Int) ≤ p.2 ∧ p.2 ≤ i
  key : keyed kv
theorem net_get {i : Nat} {kv : KV} (h : net i kv) (k : List UInt8) : -(i : Int) ≤ getK kv k ∧ getK kv k ≤ i := by
  by_cases e : getK kv k = 0
  · omega
  · have := h.cnt _ (getK_mem e)
    exact ⟨this.1, this.2⟩
theorem net_put {i : Nat} {kv : KV} (h : net i kv) {r : List Cel} (hr : rowOk r) (k : Int) : net (i + 1) (putK kv (encR r) (getK kv (encR r) + moreOf k)) := by
  have hg := net_get h (encR r)
  have hm := more_le k
  refine ⟨rising_put h.up _ _, ?_, ?_, keyed_put h.key hr _⟩
  · rw [len_put]
    have := len_del kv (encR r)
    have := h.len
    omega
  · intro p hp
    rcases mem_put.1 hp with e | e
    · subst e; dsimp only; omega
    · have := h.cnt p e.1; omega
theorem net_at {l : List Chg} (hw : wfChgs l) (hf : formOk l) (i : Nat) (hi : i ≤ l.length) : net i (netK (l.take i)) := by
  induction i with
  | zero => exact ⟨List.Pairwise.nil, Nat.le_refl _, fun p hp => absurd hp List.not_mem_nil, fun p hp => absurd hp List.not_mem_nil⟩
  | succ i ih =>
    rw [net_succ l i (by omega)]
    exact net_put (ih (by omega)) (chg_row hw hf i (by omega)) _
theorem flat_le {out : List Cnt} {f : Cnt → List Chg} {m : Nat} (h : ∀ c ∈ out, (f c).length ≤ m) : (out.flatMap f).length ≤ out.length * m := by
  induction out with
  | nil => simp
  | cons c r ih =>
    rw [List.flatMap_cons, List.length_append, List.length_cons, Nat.add_mul, Nat.one_mul]
    have h1 := h c (List.mem_cons_self ..)
    have h2 := ih (fun d hd => h d (List.mem_cons_of_mem _ hd))
    omega
def netRes (l : List Chg) (e : Ending) (w' : World) : Prop :=
  (formErr l ≠ 0 ∧ e = .returned (.tuple #[.slice none 0 0, .int .i64 (formErr l)])) ∨
  (formErr l = 0 ∧ ∃ out ad cap, kvOf out = netK l ∧ (∀ c ∈ out, rowOk c.r) ∧ e = .returned (.tuple #[.slice ad (dels out ++ inss out).length cap, .int .i64 0]) ∧ chgsAt w' ad (dels out ++ inss out))
theorem make_map0 (w : World) : (Instr.makeMap 84 none).run Tryz.prog w = .ok (.map (some w.heap.size)) (w.alloc (.map #[] 0)) := by
  unfold Instr.makeMap
  simp [run_underlying Tryz.underlying84, go_sem, asInt, Result.andThen]
end Go.Proofs.YtbfbgdinhiglaaaGreat.ch

/- Counts as functions of keys: what add does to them, and that good counts are what they tell of each key. -/
namespace Go.Proofs.YtbfbgdinhiglaaaGreat.ch
open Go.ChangeShapes Go.WideShapes Go.ChangeAt Go.RowKit Go.Maps Go.WideMaps
open vl
set_option linter.unusedVariables false
set_option linter.unusedSimpArgs false

theorem getK_cons (p : List UInt8 × Int) (r : KV) (k : List UInt8) : getK (p :: r) k = if p.1 = k then p.2 else getK r k := by
  unfold getK
  by_cases h : p.1 = k
  · rw [if_pos h, List.find?_cons_of_pos (by simpa using h)]
  · rw [if_neg h, List.find?_cons_of_neg (by simpa using h)]
theorem getK_ins (x : List UInt8 × Int) (l : KV) (k : List UInt8) (h : ∀ p ∈ l, p.1 ≠ x.1) : getK (insK x l) k = if x.1 = k then x.2 else getK l k := by
  induction l with
  | nil => rw [insK, getK_cons]
  | cons y r ih =>
    rw [insK]
    split
    · rw [getK_cons]
    · rw [getK_cons, ih (fun p hp => h p (List.mem_cons_of_mem _ hp)), getK_cons]
      have hy := h y (List.mem_cons_self ..)
      by_cases e1 : y.1 = k
      · rw [if_pos e1, if_pos e1, if_neg (fun e => hy (e1.trans e.symm))]
      · rw [if_neg e1, if_neg e1]
theorem getK_del (l : KV) (k k' : List UInt8) : getK (delK l k) k' = if k' = k then 0 else getK l k' := by
  by_cases h : k' = k
  · rw [if_pos h]
    exact getK_none (fun p hp => by rw [h]; exact (mem_del.1 hp).2)
  · rw [if_neg h]
    induction l with
    | nil => rfl
    | cons y r ih =>
      unfold delK at ih ⊢
      by_cases e : y.1 = k
      · rw [List.filter_cons_of_neg (by simpa using e), ih, getK_cons, if_neg (fun e2 => h (e2.symm.trans e))]
      · rw [List.filter_cons_of_pos (by simpa using e), getK_cons, ih, getK_cons]
theorem getK_put (l : KV) (k k' : List UInt8) (n : Int) : getK (putK l k n) k' = if k' = k then n else getK l k' := by
  unfold putK
  rw [getK_ins _ _ _ (fun p hp => (mem_del.1 hp).2), getK_del]
  by_cases h : k' = k
  · subst h; rw [if_pos rfl, if_pos rfl]
  · rw [if_neg (fun e => h e.symm), if_neg h, if_neg h]

theorem addE_zero {kv : KV} {k : List UInt8} {d : Int} : addE kv k d = 0 ↔ 0 ≤ getK kv k + d ∧ getK kv k + d ≤ 1073741824 ∧ (getK kv k + d = 0 ∨ getK kv k ≠ 0 ∨ kv.length ≠ 4096) := by
  unfold addE
  constructor
  · intro h
    split at h
    · cases h
    · split at h
      · cases h
      · split at h
        · exact ⟨by omega, by omega, .inl ‹_›⟩
        · split at h
          · cases h
          · rename_i h4
            refine ⟨by omega, by omega, ?_⟩
            by_cases e : getK kv k = 0
            · exact .inr (.inr (fun e2 => h4 ⟨e, e2⟩))
            · exact .inr (.inl e)
  · rintro ⟨h1, h2, h3⟩
    rw [if_neg (by omega), if_neg (by omega)]
    split
    · rfl
    · rename_i h4
      rw [if_neg]
      rintro ⟨e1, e2⟩
      rcases h3 with h | h | h
      · exact h4 h
      · exact h e1
      · exact h e2
theorem addV_get {kv : KV} {k : List UInt8} {d : Int} (h : addE kv k d = 0) (k' : List UInt8) : getK (addV kv k d) k' = getK kv k' + if k' = k then d else 0 := by
  obtain ⟨h1, h2, h3⟩ := addE_zero.1 h
  unfold addV
  rw [if_neg (by omega), if_neg (by omega)]
  split
  · rename_i h4
    rw [getK_del]
    by_cases e : k' = k
    · rw [if_pos e, if_pos e, e]; omega
    · rw [if_neg e, if_neg e]; omega
  · rename_i h4
    rw [if_neg]
    · rw [getK_put]
      by_cases e : k' = k
      · rw [if_pos e, if_pos e, e]
      · rw [if_neg e, if_neg e]; omega
    · rintro ⟨e1, e2⟩
      rcases h3 with h | h | h
      · exact h4 h
      · exact h e1
      · exact h e2

theorem getK_low {p : List UInt8 × Int} {r : KV} {k : List UInt8} (h : rising (p :: r)) (hk : bytesBefore k p.1 = true) : getK (p :: r) k = 0 := by
  refine getK_none ?_
  have h1 := List.pairwise_cons.1 h
  intro q hq e
  rw [← e] at hk
  rcases List.mem_cons.1 hq with e2 | hq
  · rw [e2, before_irrefl] at hk; cases hk
  · have := before_trans hk (h1.1 q hq)
    rw [before_irrefl] at this; cases this
theorem getK_tail {p : List UInt8 × Int} {r : KV} (h : rising (p :: r)) : getK r p.1 = 0 := by
  refine getK_none ?_
  intro q hq e
  have := (List.pairwise_cons.1 h).1 q hq
  rw [e, before_irrefl] at this; cases this
/-- counts that tell the same of each key are the same -/
theorem kv_ext {a b : KV} (ha : rising a) (hb : rising b) (na : ∀ p ∈ a, p.2 ≠ 0) (nb : ∀ p ∈ b, p.2 ≠ 0) (h : ∀ k, getK a k = getK b k) : a = b := by
  induction a generalizing b with
  | nil => cases b with
    | nil => rfl
    | cons q s =>
      have := h q.1
      rw [getK_of hb (List.mem_cons_self ..)] at this
      exact absurd this.symm (nb q (List.mem_cons_self ..))
  | cons p r ih => cases b with
    | nil =>
      have := h p.1
      rw [getK_of ha (List.mem_cons_self ..)] at this
      exact absurd this (na p (List.mem_cons_self ..))
    | cons q s =>
      have hp := getK_of ha (List.mem_cons_self (a := p) (l := r))
      have hq := getK_of hb (List.mem_cons_self (a := q) (l := s))
      have e : p.1 = q.1 := by
        refine Classical.byContradiction fun hne => ?_
        cases hpq : bytesBefore p.1 q.1 with
        | true =>
          have := getK_low hb hpq
          rw [← h, hp] at this
          exact na p (List.mem_cons_self ..) this
        | false =>
          have := getK_low ha (before_total _ _ hpq hne)
          rw [h, hq] at this
          exact nb q (List.mem_cons_self ..) this
      have e2 : p.2 = q.2 := by rw [← hp, ← hq, h, e]
      have hpe : p = q := Prod.ext e e2
      subst hpe
      rw [ih (List.pairwise_cons.1 ha).2 (List.pairwise_cons.1 hb).2 (fun x hx => na x (List.mem_cons_of_mem _ hx)) (fun x hx => nb x (List.mem_cons_of_mem _ hx)) (fun k => by
        have := h k
        rw [getK_cons, getK_cons] at this
        by_cases e : p.1 = k
        · rw [← e, getK_tail ha, getK_tail hb]
        · rwa [if_neg e, if_neg e] at this)]
theorem good_ext {a b : KV} (ha : good a) (hb : good b) (h : ∀ k, getK a k = getK b k) : a = b :=
  kv_ext ha.up hb.up (fun p hp => by have := ha.cnt p hp; omega) (fun p hp => by have := hb.cnt p hp; omega) h
/-- where one's keys are another's, it is no longer -/
theorem len_sub {a b : KV} (ha : rising a) (h : ∀ p ∈ a, ∃ q ∈ b, q.1 = p.1) : a.length ≤ b.length := by
  induction a generalizing b with
  | nil => exact Nat.zero_le _
  | cons p r ih =>
    have h1 := List.pairwise_cons.1 ha
    have h2 := ih (b := delK b p.1) h1.2 (fun q hq => by
      obtain ⟨x, hx, e⟩ := h q (List.mem_cons_of_mem _ hq)
      refine ⟨x, mem_del.2 ⟨hx, fun e2 => ?_⟩, e⟩
      have := h1.1 q hq
      rw [← e, e2, before_irrefl] at this; cases this)
    have h3 : (delK b p.1).length < b.length := by
      obtain ⟨x, hx, e⟩ := h p (List.mem_cons_self ..)
      unfold delK
      rw [List.length_filter_lt_length_iff_exists]
      exact ⟨x, hx, by simp [e]⟩
    rw [List.length_cons]; omega
theorem mem_of_pos {kv : KV} {k : List UInt8} (h : getK kv k ≠ 0) : ∃ q ∈ kv, q.1 = k := ⟨_, getK_mem h, rfl⟩

/-- how much changes move a key's count -/
def sumK : List Chg → List UInt8 → Int
  | [], _ => 0
  | c :: l, k => (if k = encR c.r then moreOf c.k else 0) + sumK l k
theorem sumK_app (l m : List Chg) (k : List UInt8) : sumK (l ++ m) k = sumK l k + sumK m k := by
  induction l with
  | nil => simp [sumK]
  | cons c r ih => rw [List.cons_append, sumK, ih, sumK]; omega
theorem sumK_one (c : Chg) (k : List UInt8) : sumK [c] k = if k = encR c.r then moreOf c.k else 0 := by simp [sumK]
theorem at_get {kv : KV} {l : List Chg} (i : Nat) (hi : i ≤ l.length) (h : ∀ j, j < i → errK kv l j = 0) (k : List UInt8) : getK (atK kv l i) k = getK kv k + sumK (l.take i) k := by
  induction i with
  | zero => simp [atK, sumK]
  | succ i ih =>
    rw [atK_succ kv l i (by omega), addV_get (h i (by omega)), ih (by omega) (fun j hj => h j (by omega)), takeC l i (by omega), sumK_app, sumK_one]
    omega
theorem net_get_sum (l : List Chg) (k : List UInt8) : getK (netK l) k = sumK l k := by
  suffices h : ∀ i, i ≤ l.length → getK (netK (l.take i)) k = sumK (l.take i) k by
    have := h l.length (Nat.le_refl _)
    rwa [List.take_length] at this
  intro i
  induction i with
  | zero => intro _; rfl
  | succ i ih =>
    intro hi
    rw [net_succ l i (by omega), getK_put, takeC l i (by omega), sumK_app, sumK_one]
    have := ih (by omega)
    by_cases e : k = encR (l.getD i default).r
    · rw [if_pos e, if_pos e, ← e, this]
    · rw [if_neg e, if_neg e, this]; omega
/-- how many changes are of a key -/
def cntK (l : List Chg) (k : List UInt8) : Nat := (l.filter fun c => encR c.r == k).length
theorem cntK_app (l m : List Chg) (k : List UInt8) : cntK (l ++ m) k = cntK l k + cntK m k := by unfold cntK; rw [List.filter_append, List.length_append]
theorem cntK_take (l : List Chg) (i : Nat) (k : List UInt8) : cntK (l.take i) k ≤ cntK l k := by
  have := cntK_app (l.take i) (l.drop i) k
  rw [List.take_append_drop] at this
  omega
theorem cntK_rep (m : Nat) (x : Int) (r : List Cel) (k : List UInt8) : cntK (List.replicate m ⟨x, r⟩) k = if encR r = k then m else 0 := by
  unfold cntK
  by_cases e : encR r = k
  · rw [if_pos e, List.filter_replicate_of_pos (by simpa using e), List.length_replicate]
  · rw [if_neg e, List.filter_replicate_of_neg (by simpa using e)]; rfl
theorem cntK_dels {out : List Cnt} (hr : rising (kvOf out)) (k : List UInt8) : cntK (dels out) k = (-(getK (kvOf out) k)).toNat := by
  induction out with
  | nil => rfl
  | cons c r ih =>
    have hr' : rising ((encR c.r, c.n) :: kvOf r) := hr
    have e : dels (c :: r) = List.replicate (-c.n).toNat ⟨2, c.r⟩ ++ dels r := rfl
    have e2 : kvOf (c :: r) = (encR c.r, c.n) :: kvOf r := rfl
    rw [e, cntK_app, cntK_rep, ih (List.pairwise_cons.1 hr').2, e2, getK_cons]
    by_cases h : encR c.r = k
    · have := getK_tail hr'
      dsimp only at this
      rw [if_pos h, if_pos h, ← h, this]; simp
    · rw [if_neg h, if_neg h]; omega
theorem cntK_inss {out : List Cnt} (hr : rising (kvOf out)) (k : List UInt8) : cntK (inss out) k = (getK (kvOf out) k).toNat := by
  induction out with
  | nil => rfl
  | cons c r ih =>
    have hr' : rising ((encR c.r, c.n) :: kvOf r) := hr
    have e : inss (c :: r) = List.replicate c.n.toNat ⟨1, c.r⟩ ++ inss r := rfl
    have e2 : kvOf (c :: r) = (encR c.r, c.n) :: kvOf r := rfl
    rw [e, cntK_app, cntK_rep, ih (List.pairwise_cons.1 hr').2, e2, getK_cons]
    by_cases h : encR c.r = k
    · have := getK_tail hr'
      dsimp only at this
      rw [if_pos h, if_pos h, ← h, this]; simp
    · rw [if_neg h, if_neg h]; omega
theorem sum_dels {l : List Chg} (h : ∀ c ∈ l, c.k = 2) (k : List UInt8) : sumK l k = -(cntK l k : Int) := by
  induction l with
  | nil => rfl
  | cons c r ih =>
    have hm : moreOf c.k = -1 := by rw [h c (List.mem_cons_self ..)]; decide
    rw [sumK, ih (fun x hx => h x (List.mem_cons_of_mem _ hx)), hm]
    unfold cntK
    by_cases e : k = encR c.r
    · rw [if_pos e, List.filter_cons_of_pos (by simpa using e.symm), List.length_cons]; omega
    · rw [if_neg e, List.filter_cons_of_neg (by simpa using fun h : encR c.r = k => e h.symm)]; omega
theorem sum_inss {l : List Chg} (h : ∀ c ∈ l, c.k = 1) (k : List UInt8) : sumK l k = (cntK l k : Int) := by
  induction l with
  | nil => rfl
  | cons c r ih =>
    have hm : moreOf c.k = 1 := by rw [h c (List.mem_cons_self ..)]; decide
    rw [sumK, ih (fun x hx => h x (List.mem_cons_of_mem _ hx)), hm]
    unfold cntK
    by_cases e : k = encR c.r
    · rw [if_pos e, List.filter_cons_of_pos (by simpa using e.symm), List.length_cons]; omega
    · rw [if_neg e, List.filter_cons_of_neg (by simpa using fun h : encR c.r = k => e h.symm)]; omega
theorem dels_mem {out : List Cnt} {c : Chg} (h : c ∈ dels out) : c.k = 2 ∧ ∃ d ∈ out, c.r = d.r ∧ d.n < 0 := by
  obtain ⟨d, hd, hc⟩ := List.mem_flatMap.1 h
  obtain ⟨h1, h2⟩ := List.mem_replicate.1 hc
  subst h2
  exact ⟨rfl, d, hd, rfl, by omega⟩
theorem inss_mem {out : List Cnt} {c : Chg} (h : c ∈ inss out) : c.k = 1 ∧ ∃ d ∈ out, c.r = d.r ∧ 0 < d.n := by
  obtain ⟨d, hd, hc⟩ := List.mem_flatMap.1 h
  obtain ⟨h1, h2⟩ := List.mem_replicate.1 hc
  subst h2
  exact ⟨rfl, d, hd, rfl, by omega⟩
/-- what a front of the made changes moves -/
theorem sum_front {out : List Cnt} (hr : rising (kvOf out)) (i : Nat) (k : List UInt8) :
    (i ≤ (dels out).length → sumK ((dels out ++ inss out).take i) k ≤ 0 ∧ (getK (kvOf out) k ≤ sumK ((dels out ++ inss out).take i) k ∨ 0 ≤ sumK ((dels out ++ inss out).take i) k)) ∧
    ((dels out).length ≤ i → sumK ((dels out ++ inss out).take i) k ≤ getK (kvOf out) k ∧ (sumK ((dels out ++ inss out).take i) k = getK (kvOf out) k ∨ 0 ≤ sumK ((dels out ++ inss out).take i) k)) := by
  constructor
  · intro hi
    rw [List.take_append_of_le_length hi, sum_dels (fun c hc => (dels_mem (List.mem_of_mem_take hc)).1)]
    have := cntK_take (dels out) i k
    rw [cntK_dels hr] at this
    omega
  · intro hi
    rw [List.take_append, List.take_of_length_le hi, sumK_app, sum_dels (fun c hc => (dels_mem hc).1), sum_inss (fun c hc => (inss_mem (List.mem_of_mem_take hc)).1), cntK_dels hr]
    have := cntK_take (inss out) (i - (dels out).length) k
    rw [cntK_inss hr] at this
    omega
theorem sum_all {out : List Cnt} (hr : rising (kvOf out)) (k : List UInt8) : sumK (dels out ++ inss out) k = getK (kvOf out) k := by
  rw [sumK_app, sum_dels (fun c hc => (dels_mem hc).1), sum_inss (fun c hc => (inss_mem hc).1), cntK_dels hr, cntK_inss hr]
  omega
end Go.Proofs.YtbfbgdinhiglaaaGreat.ch
