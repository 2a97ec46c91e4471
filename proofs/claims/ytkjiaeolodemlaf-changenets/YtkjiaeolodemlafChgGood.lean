/- Counts that are a view's: what add leaves of them, and which view it is. -/
import Derived.Test.YtkjiaeolodemlafChgKeys
namespace Go.Proofs.Ytkjiaeolodemlaf.ch
open Go.ChangeShapes Go.WideShapes Go.ChangeAt Go.RowKit Go.Maps Go.WideMaps
open vl
set_option linter.unusedVariables false
set_option linter.unusedSimpArgs false

/-- the keys are of rows -/
def keyed (kv : KV) : Prop := ∀ p ∈ kv, ∃ r, rowOk r ∧ encR r = p.1
structure good (kv : KV) : Prop where
  up : rising kv
  len : kv.length ≤ 4096
  cnt : ∀ p ∈ kv, 1 ≤ p.2 ∧ p.2 ≤ 1073741824
  key : keyed kv

theorem before_total : ∀ (a b : List UInt8), bytesBefore a b = false → a ≠ b → bytesBefore b a = true
  | [], [], _, h => absurd rfl h
  | [], _ :: _, h, _ => by simp [bytesBefore] at h
  | _ :: _, [], _, _ => by simp [bytesBefore]
  | a :: x, b :: y, h, hne => by
    rw [bytesBefore] at h ⊢
    by_cases e : a = b
    · subst e
      have hx : x ≠ y := fun e => hne (by rw [e])
      have h1 : bytesBefore x y = false := by simpa using h
      simp [before_total x y h1 hx]
    · have h1 : ¬ a < b := by
        intro hl
        simp [hl] at h
      have h2 : b < a := by
        rw [UInt8.lt_iff_toNat_lt] at h1 ⊢
        have : a.toNat ≠ b.toNat := fun h => e (UInt8.toNat_inj.1 h)
        omega
      simp [h2]
theorem before_irrefl (a : List UInt8) : bytesBefore a a = false := by
  rw [before_lt]; exact decide_eq_false (List.lt_irrefl a)
theorem mem_ins (x : List UInt8 × Int) (l : KV) : ∀ p, p ∈ insK x l ↔ p = x ∨ p ∈ l := by
  induction l with
  | nil => intro p; simp [insK]
  | cons y r ih =>
    intro p
    rw [insK]
    split
    · simp
    · rw [List.mem_cons, ih p, List.mem_cons]
      constructor
      · rintro (h | h | h)
        · exact .inr (.inl h)
        · exact .inl h
        · exact .inr (.inr h)
      · rintro (h | h | h)
        · exact .inr (.inl h)
        · exact .inl h
        · exact .inr (.inr h)
theorem len_ins (x : List UInt8 × Int) (l : KV) : (insK x l).length = l.length + 1 := by
  induction l with
  | nil => rfl
  | cons y r ih =>
    rw [insK]
    split
    · rfl
    · rw [List.length_cons, ih, List.length_cons]
theorem rising_ins {x : List UInt8 × Int} {l : KV} (h : rising l) (hx : ∀ p ∈ l, p.1 ≠ x.1) : rising (insK x l) := by
  induction l with
  | nil => exact List.pairwise_singleton _ _
  | cons y r ih =>
    have h1 := List.pairwise_cons.1 h
    rw [insK]
    split
    · rename_i hb
      refine List.pairwise_cons.2 ⟨?_, h⟩
      intro p hp
      rcases List.mem_cons.1 hp with e | hp
      · rw [e]; exact hb
      · exact before_trans hb (h1.1 p hp)
    · rename_i hb
      refine List.pairwise_cons.2 ⟨?_, ih h1.2 (fun p hp => hx p (List.mem_cons_of_mem _ hp))⟩
      intro p hp
      rcases (mem_ins x r p).1 hp with e | hp
      · rw [e]
        exact before_total _ _ (by simpa using hb) (fun e => hx y (List.mem_cons_self ..) e.symm)
      · exact h1.1 p hp
theorem mem_del {kv : KV} {k : List UInt8} {p : List UInt8 × Int} : p ∈ delK kv k ↔ p ∈ kv ∧ p.1 ≠ k := by
  unfold delK
  rw [List.mem_filter]
  simp
theorem rising_del {kv : KV} (h : rising kv) (k : List UInt8) : rising (delK kv k) := List.Pairwise.filter _ h
theorem len_del (kv : KV) (k : List UInt8) : (delK kv k).length ≤ kv.length := List.length_filter_le _ _
theorem rising_put {kv : KV} (h : rising kv) (k : List UInt8) (n : Int) : rising (putK kv k n) := rising_ins (rising_del h k) (fun p hp => (mem_del.1 hp).2)
theorem mem_put {kv : KV} {k : List UInt8} {n : Int} {p : List UInt8 × Int} : p ∈ putK kv k n ↔ p = (k, n) ∨ (p ∈ kv ∧ p.1 ≠ k) := by
  unfold putK
  rw [mem_ins, mem_del]
theorem getK_mem {kv : KV} {k : List UInt8} (h : getK kv k ≠ 0) : (k, getK kv k) ∈ kv := by
  unfold getK at *
  cases e : kv.find? (fun p => p.1 == k) with
  | none => rw [e] at h; exact absurd rfl h
  | some p =>
    dsimp only
    have h1 := List.mem_of_find?_eq_some e
    have h2 := List.find?_some e
    have h3 : p.1 = k := by simpa using h2
    rw [← h3]
    exact h1
theorem getK_none {kv : KV} {k : List UInt8} (h : ∀ p ∈ kv, p.1 ≠ k) : getK kv k = 0 := by
  unfold getK
  rw [List.find?_eq_none.2 (by intro p hp; simpa using h p hp)]
theorem getK_of {kv : KV} (hr : rising kv) {p : List UInt8 × Int} (hp : p ∈ kv) : getK kv p.1 = p.2 := by
  obtain ⟨i, hi, rfl⟩ := List.getElem_of_mem hp
  have := getK_at hr i hi
  simpa [List.getD_eq_getElem?_getD, hi] using this
theorem len_del_lt {kv : KV} {k : List UInt8} (h : getK kv k ≠ 0) : (delK kv k).length < kv.length := by
  have hm := getK_mem h
  unfold delK
  rw [List.length_filter_lt_length_iff_exists]
  exact ⟨_, hm, by simp⟩
theorem len_put {kv : KV} {k : List UInt8} {n : Int} : (putK kv k n).length = (delK kv k).length + 1 := by unfold putK; rw [len_ins]
theorem keyed_del {kv : KV} (h : keyed kv) (k : List UInt8) : keyed (delK kv k) := fun p hp => h p (mem_del.1 hp).1
theorem keyed_put {kv : KV} (h : keyed kv) {r : List Cel} (hr : rowOk r) (n : Int) : keyed (putK kv (encR r) n) := fun p hp => by
  rcases mem_put.1 hp with e | e
  · subst e; exact ⟨r, hr, rfl⟩
  · exact h p e.1
theorem good_get {kv : KV} (h : good kv) (k : List UInt8) : 0 ≤ getK kv k ∧ getK kv k ≤ 1073741824 := by
  by_cases e : getK kv k = 0
  · omega
  · have := h.cnt _ (getK_mem e)
    exact ⟨by omega, this.2⟩
theorem good_add {kv : KV} (h : good kv) {r : List Cel} (hr : rowOk r) (n : Int) : good (addV kv (encR r) n) := by
  unfold addV
  split
  · exact h
  · split
    · exact h
    · split
      · exact ⟨rising_del h.up _, Nat.le_trans (len_del _ _) h.len, fun p hp => h.cnt p (mem_del.1 hp).1, keyed_del h.key _⟩
      · split
        · exact h
        · rename_i h1 h2 h3 h4
          refine ⟨rising_put h.up _ _, ?_, ?_, keyed_put h.key hr _⟩
          · rw [len_put]
            have hl := h.len
            by_cases e : getK kv (encR r) = 0
            · have := len_del kv (encR r)
              have h5 : kv.length ≠ 4096 := fun h => h4 ⟨e, h⟩
              omega
            · have := len_del_lt e
              omega
          · intro p hp
            rcases mem_put.1 hp with e | e
            · subst e; exact ⟨by dsimp only; omega, by dsimp only; omega⟩
            · exact h.cnt p e.1

theorem keyed_out {kv : KV} (h : keyed kv) : ∃ out : List Cnt, kvOf out = kv ∧ ∀ c ∈ out, rowOk c.r := by
  induction kv with
  | nil => exact ⟨[], rfl, fun c hc => by cases hc⟩
  | cons p r ih =>
    obtain ⟨out, h1, h2⟩ := ih (fun q hq => h q (List.mem_cons_of_mem _ hq))
    obtain ⟨ro, h3, h4⟩ := h p (List.mem_cons_self ..)
    refine ⟨⟨ro, p.2⟩ :: out, ?_, ?_⟩
    · show (encR ro, p.2) :: kvOf out = p :: r
      rw [h1, h4]
    · intro c hc
      rcases List.mem_cons.1 hc with e | hc
      · rw [e]; exact h3
      · exact h2 c hc
theorem cmp_of_before {a b : List Cel} (ha : rowOk a) (hb : rowOk b) (h : bytesBefore (encR a) (encR b) = true) : cmpRows a b < 0 := by
  have h1 := cmpB_rows a b ha.2 hb.2
  have h2 := less_cmp (encR a) (encR b)
  rw [before_lt] at h
  rw [less_lt, h, if_pos rfl] at h2
  omega
theorem rowOk_wf {r : List Cel} (h : rowOk r) : wfRow r := fun c hc => (h.2 c hc).2
theorem mem_getD {α : Type} [Inhabited α] {l : List α} {i : Nat} (h : i < l.length) : l.getD i default ∈ l := by simp [List.getD_eq_getElem?_getD, h]
theorem kvOf_mem {out : List Cnt} {c : Cnt} (h : c ∈ out) : (encR c.r, c.n) ∈ kvOf out := List.mem_map.2 ⟨c, h, rfl⟩
/-- the view of good counts is right -/
theorem good_view {out : List Cnt} (h : good (kvOf out)) (hr : ∀ c ∈ out, rowOk c.r) : viewOk out ∧ wfView out := by
  refine ⟨⟨by have := h.len; rw [kvOf_len] at this; exact this, ?_⟩, ?_⟩
  · intro i hi
    have hm := mem_getD hi
    have hc := h.cnt _ (kvOf_mem hm)
    refine ⟨keyErr_ok (hr _ hm), hc.1, hc.2, fun h0 => ?_⟩
    have hm1 := mem_getD (l := out) (i := i - 1) (by omega)
    refine cmp_of_before (hr _ hm1) (hr _ hm) ?_
    have hu := h.up
    unfold rising kvOf at hu
    rw [List.pairwise_map, List.pairwise_iff_getElem] at hu
    have := hu (i - 1) i (by omega) hi (by omega)
    have e1 : out[i - 1] = out.getD (i - 1) default := by simp [List.getD_eq_getElem?_getD, show i - 1 < out.length by omega]
    have e2 : out[i] = out.getD i default := by simp [List.getD_eq_getElem?_getD, hi]
    rw [e1, e2] at this
    exact this
  · intro c hc
    have h1 := h.cnt _ (kvOf_mem hc)
    have h2 := (hr c hc).1
    dsimp only at h1
    exact ⟨rowOk_wf (hr c hc), by omega, by omega, by omega⟩
theorem view_rows {v : List Cnt} (hw : wfView v) (h : viewOk v) : ∀ c ∈ v, rowOk c.r := by
  intro c hc
  obtain ⟨i, hi, rfl⟩ := List.getElem_of_mem hc
  have := ok_row hw hi (h.2 i hi)
  simpa [List.getD_eq_getElem?_getD, hi] using this
theorem view_good {v : List Cnt} (hw : wfView v) (h : viewOk v) : good (kvOf v) := by
  refine ⟨kv_rising hw h, by rw [kvOf_len]; exact h.1, ?_, ?_⟩
  · intro p hp
    obtain ⟨c, hc, rfl⟩ := List.mem_map.1 hp
    obtain ⟨i, hi, rfl⟩ := List.getElem_of_mem hc
    have := h.2 i hi
    simp only [okAt, List.getD_eq_getElem?_getD, List.getElem?_eq_getElem hi, Option.getD_some] at this
    exact ⟨this.2.1, this.2.2.1⟩
  · intro p hp
    obtain ⟨c, hc, rfl⟩ := List.mem_map.1 hp
    exact ⟨c.r, view_rows hw h c hc, rfl⟩
theorem kvOf_inj {a b : List Cnt} (ha : ∀ c ∈ a, rowOk c.r) (hb : ∀ c ∈ b, rowOk c.r) (h : kvOf a = kvOf b) : a = b := by
  induction a generalizing b with
  | nil => cases b with
    | nil => rfl
    | cons d s => cases h
  | cons c r ih => cases b with
    | nil => cases h
    | cons d s =>
      have h1 : (encR c.r, c.n) = (encR d.r, d.n) ∧ kvOf r = kvOf s := List.cons.inj h
      have h2 := Prod.mk.inj h1.1
      have h3 := encR_inj (ha c (List.mem_cons_self ..)).2 (hb d (List.mem_cons_self ..)).2 h2.1
      rw [ih (fun x hx => ha x (List.mem_cons_of_mem _ hx)) (fun x hx => hb x (List.mem_cons_of_mem _ hx)) h1.2]
      cases c; cases d
      simp only at h3 h2
      rw [h3, h2.2]

/-- changes, one by one -/
def stepK (kv : KV) (c : Chg) : KV := addV kv (encR c.r) (moreOf c.k)
def atK (kv : KV) (l : List Chg) (i : Nat) : KV := (l.take i).foldl stepK kv
def errK (kv : KV) (l : List Chg) (i : Nat) : Int := addE (atK kv l i) (encR (l.getD i default).r) (moreOf (l.getD i default).k)
theorem atK_succ (kv : KV) (l : List Chg) (i : Nat) (h : i < l.length) : atK kv l (i + 1) = addV (atK kv l i) (encR (l.getD i default).r) (moreOf (l.getD i default).k) := by
  unfold atK
  rw [takeC l i h, List.foldl_append]
  rfl
theorem chg_row {l : List Chg} (hw : wfChgs l) (h : formOk l) (i : Nat) (hi : i < l.length) : rowOk (l.getD i default).r := vl_rowOk (h.2 i hi).2.2.1 (wfc_at hw i hi).1
theorem good_at {kv : KV} (h : good kv) {l : List Chg} (hw : wfChgs l) (hf : formOk l) (i : Nat) (hi : i ≤ l.length) : good (atK kv l i) := by
  induction i with
  | zero => exact h
  | succ i ih =>
    rw [atK_succ kv l i (by omega)]
    exact good_add (ih (by omega)) (chg_row hw hf i (by omega)) _
/-- what Fold answers -/
def foldRes (v : List Cnt) (l : List Chg) (e : Ending) (w' : World) : Prop :=
  (viewErr v ≠ 0 ∧ e = .returned (.tuple #[.slice none 0 0, .int .i64 0, .int .i64 (viewErr v)])) ∨
  (viewErr v = 0 ∧ formErr l ≠ 0 ∧ e = .returned (.tuple #[.slice none 0 0, .int .i64 0, .int .i64 (formErr l)])) ∨
  (viewErr v = 0 ∧ formErr l = 0 ∧ ∃ k : Nat, k < l.length ∧ (∀ i, i < k → errK (kvOf v) l i = 0) ∧ errK (kvOf v) l k ≠ 0 ∧ e = .returned (.tuple #[.slice none 0 0, .int .i64 k, .int .i64 (errK (kvOf v) l k)])) ∨
  (viewErr v = 0 ∧ formErr l = 0 ∧ (∀ i, i < l.length → errK (kvOf v) l i = 0) ∧ ∃ out ad cap, kvOf out = atK (kvOf v) l l.length ∧ viewOk out ∧ wfView out ∧ e = .returned (.tuple #[.slice ad out.length cap, .int .i64 0, .int .i64 0]) ∧ viewAt w' ad out)
end Go.Proofs.Ytkjiaeolodemlaf.ch
