/- Two views gone through at once: what the document's DiffOf gathers. -/
import Derived.Test.YtkjiaeolodemlafChgTold
import Derived.Test.YtkjiaeolodemlafChgDiff
namespace Go.Proofs.Ytkjiaeolodemlaf.ch
open Go.ChangeShapes Go.WideShapes Go.ChangeAt Go.RowKit Go.Maps Go.WideMaps
open vl
set_option linter.unusedVariables false
set_option linter.unusedSimpArgs false

theorem getK_snoc {l : KV} {p : List UInt8 × Int} (h : ∀ q ∈ l, q.1 ≠ p.1) (k : List UInt8) : getK (l ++ [p]) k = if k = p.1 then p.2 else getK l k := by
  induction l with
  | nil =>
    rw [List.nil_append, getK_cons]
    by_cases e : p.1 = k
    · rw [if_pos e, if_pos e.symm]
    · rw [if_neg e, if_neg (fun h => e h.symm)]
  | cons q r ih =>
    rw [List.cons_append, getK_cons, ih (fun x hx => h x (List.mem_cons_of_mem _ hx)), getK_cons]
    have hq := h q (List.mem_cons_self ..)
    by_cases e : q.1 = k
    · rw [if_pos e, if_pos e, if_neg (fun e2 => hq (e.trans e2))]
    · rw [if_neg e, if_neg e]
theorem rising_snoc {l : KV} {p : List UInt8 × Int} (h : rising l) (hp : ∀ q ∈ l, bytesBefore q.1 p.1 = true) : rising (l ++ [p]) := by
  unfold rising at *
  rw [List.pairwise_append]
  exact ⟨h, List.pairwise_singleton _ _, fun q hq x hx => by rw [List.mem_singleton.1 hx]; exact hp q hq⟩
theorem ne_before {a b : List UInt8} (h : bytesBefore a b = true) : a ≠ b := fun e => by rw [e, before_irrefl] at h; cases h
/-- a front of a view, by one row more -/
theorem front_get {v : List Cnt} (hw : wfView v) (h : viewOk v) (i : Nat) (hi : i < v.length) (k : List UInt8) : getK (kvOf (v.take (i + 1))) k = getK (kvOf (v.take i)) k + if k = encR (v.getD i default).r then (v.getD i default).n else 0 := by
  rw [takeV v i hi, kvOf_snoc, getK_snoc (fun q hq => ne_before (kv_all hw i hi (fun j hj => h.2 j (by omega)) q hq))]
  dsimp only
  split
  · rename_i e
    rw [e, getK_none (fun q hq => ne_before (kv_all hw i hi (fun j hj => h.2 j (by omega)) q hq))]; omega
  · omega
/-- what has been gathered of the first i rows of a and the first k of b -/
structure merged (a b : List Cnt) (i k : Nat) (M : List Cnt) : Prop where
  up : rising (kvOf M)
  ok : ∀ c ∈ M, rowOk c.r
  cnt : ∀ c ∈ M, -10000000000 ≤ c.n ∧ c.n ≤ 10000000000
  len : M.length ≤ i + k
  lowA : ∀ p ∈ kvOf M, i < a.length → bytesBefore p.1 (encR (a.getD i default).r) = true
  lowB : ∀ p ∈ kvOf M, k < b.length → bytesBefore p.1 (encR (b.getD k default).r) = true
  get : ∀ x, getK (kvOf M) x = getK (kvOf (b.take k)) x - getK (kvOf (a.take i)) x
theorem merged_start (a b : List Cnt) : merged a b 0 0 [] :=
  ⟨List.Pairwise.nil, fun c hc => (by cases hc), fun c hc => (by cases hc), Nat.le_refl _, fun p hp => (by cases hp), fun p hp => (by cases hp), fun x => rfl⟩
theorem next_before {v : List Cnt} (hw : wfView v) (h : viewOk v) (i : Nat) (hi : i + 1 < v.length) : bytesBefore (encR (v.getD i default).r) (encR (v.getD (i + 1) default).r) = true :=
  kv_before hw (i + 1) hi (fun j hj => h.2 j (by omega)) i (by omega)
theorem mem_snoc {M : List Cnt} {c : Cnt} {p : List UInt8 × Int} (h : p ∈ kvOf (M ++ [c])) : p ∈ kvOf M ∨ p = (encR c.r, c.n) := by
  rw [kvOf_snoc] at h
  rcases List.mem_append.1 h with h | h
  · exact .inl h
  · exact .inr (List.mem_singleton.1 h)
theorem cnt_view {v : List Cnt} (h : viewOk v) (i : Nat) (hi : i < v.length) : 1 ≤ (v.getD i default).n ∧ (v.getD i default).n ≤ 1073741824 := ⟨(h.2 i hi).2.1, (h.2 i hi).2.2.1⟩
theorem merged_a {a b M : List Cnt} {i k : Nat} (wa : wfView a) (oa : viewOk a) (hm : merged a b i k M) (hi : i < a.length) (hlt : k < b.length → bytesBefore (encR (a.getD i default).r) (encR (b.getD k default).r) = true) :
    merged a b (i + 1) k (M ++ [⟨(a.getD i default).r, -(a.getD i default).n⟩]) := by
  have hrow := ok_row wa hi (oa.2 i hi)
  have hc := cnt_view oa i hi
  have hlo : ∀ q ∈ kvOf M, bytesBefore q.1 (encR (a.getD i default).r) = true := fun q hq => hm.lowA q hq hi
  refine ⟨?_, ?_, ?_, ?_, ?_, ?_, ?_⟩
  · rw [kvOf_snoc]; exact rising_snoc hm.up hlo
  · intro c h
    rcases List.mem_append.1 h with h | h
    · exact hm.ok c h
    · rw [List.mem_singleton.1 h]; exact hrow
  · intro c h
    rcases List.mem_append.1 h with h | h
    · exact hm.cnt c h
    · rw [List.mem_singleton.1 h]; dsimp only; omega
  · rw [List.length_append, List.length_singleton]; have := hm.len; omega
  · intro p hp hi2
    rcases mem_snoc hp with h | h
    · exact before_trans (hlo p h) (next_before wa oa i hi2)
    · rw [h]; exact next_before wa oa i hi2
  · intro p hp hk
    rcases mem_snoc hp with h | h
    · exact hm.lowB p h hk
    · rw [h]; exact hlt hk
  · intro x
    rw [kvOf_snoc, getK_snoc (fun q hq => ne_before (hlo q hq)), front_get wa oa i hi, hm.get]
    dsimp only
    split
    · rename_i e
      have h0 : getK (kvOf M) x = 0 := by rw [e]; exact getK_none (fun q hq => ne_before (hlo q hq))
      rw [hm.get] at h0
      omega
    · omega
theorem merged_b {a b M : List Cnt} {i k : Nat} (wb : wfView b) (ob : viewOk b) (hm : merged a b i k M) (hk : k < b.length) (hlt : i < a.length → bytesBefore (encR (b.getD k default).r) (encR (a.getD i default).r) = true) :
    merged a b i (k + 1) (M ++ [⟨(b.getD k default).r, (b.getD k default).n⟩]) := by
  have hrow := ok_row wb hk (ob.2 k hk)
  have hc := cnt_view ob k hk
  have hlo : ∀ q ∈ kvOf M, bytesBefore q.1 (encR (b.getD k default).r) = true := fun q hq => hm.lowB q hq hk
  refine ⟨?_, ?_, ?_, ?_, ?_, ?_, ?_⟩
  · rw [kvOf_snoc]; exact rising_snoc hm.up hlo
  · intro c h
    rcases List.mem_append.1 h with h | h
    · exact hm.ok c h
    · rw [List.mem_singleton.1 h]; exact hrow
  · intro c h
    rcases List.mem_append.1 h with h | h
    · exact hm.cnt c h
    · rw [List.mem_singleton.1 h]; dsimp only; omega
  · rw [List.length_append, List.length_singleton]; have := hm.len; omega
  · intro p hp hi
    rcases mem_snoc hp with h | h
    · exact hm.lowA p h hi
    · rw [h]; exact hlt hi
  · intro p hp hk2
    rcases mem_snoc hp with h | h
    · exact before_trans (hlo p h) (next_before wb ob k hk2)
    · rw [h]; exact next_before wb ob k hk2
  · intro x
    rw [kvOf_snoc, getK_snoc (fun q hq => ne_before (hlo q hq)), front_get wb ob k hk, hm.get]
    dsimp only
    split
    · rename_i e
      have h0 : getK (kvOf M) x = 0 := by rw [e]; exact getK_none (fun q hq => ne_before (hlo q hq))
      rw [hm.get] at h0
      omega
    · omega
theorem merged_ab {a b M : List Cnt} {i k : Nat} (wa : wfView a) (oa : viewOk a) (wb : wfView b) (ob : viewOk b) (hm : merged a b i k M) (hi : i < a.length) (hk : k < b.length) (he : (a.getD i default).r = (b.getD k default).r) :
    merged a b (i + 1) (k + 1) (M ++ [⟨(a.getD i default).r, -(a.getD i default).n + (b.getD k default).n⟩]) := by
  have hrow := ok_row wa hi (oa.2 i hi)
  have hc := cnt_view oa i hi
  have hc2 := cnt_view ob k hk
  have hlo : ∀ q ∈ kvOf M, bytesBefore q.1 (encR (a.getD i default).r) = true := fun q hq => hm.lowA q hq hi
  refine ⟨?_, ?_, ?_, ?_, ?_, ?_, ?_⟩
  · rw [kvOf_snoc]; exact rising_snoc hm.up hlo
  · intro c h
    rcases List.mem_append.1 h with h | h
    · exact hm.ok c h
    · rw [List.mem_singleton.1 h]; exact hrow
  · intro c h
    rcases List.mem_append.1 h with h | h
    · exact hm.cnt c h
    · rw [List.mem_singleton.1 h]; dsimp only; omega
  · rw [List.length_append, List.length_singleton]; have := hm.len; omega
  · intro p hp hi2
    rcases mem_snoc hp with h | h
    · exact before_trans (hlo p h) (next_before wa oa i hi2)
    · rw [h]; exact next_before wa oa i hi2
  · intro p hp hk2
    have hn := next_before wb ob k hk2
    rcases mem_snoc hp with h | h
    · exact before_trans (hm.lowB p h hk) hn
    · rw [h]; dsimp only; rw [he]; exact hn
  · intro x
    rw [kvOf_snoc, getK_snoc (fun q hq => ne_before (hlo q hq)), front_get wa oa i hi, front_get wb ob k hk, hm.get]
    dsimp only
    rw [← he]
    split
    · rename_i e
      have h0 : getK (kvOf M) x = 0 := by rw [e]; exact getK_none (fun q hq => ne_before (hlo q hq))
      rw [hm.get] at h0
      omega
    · omega
theorem cmp_gt {a b : List Cel} (ha : rowOk a) (hb : rowOk b) (h : 0 < cmpRows a b) : bytesBefore (encR b) (encR a) = true := by
  have h1 := cmpB_rows a b ha.2 hb.2
  have h2 := less_cmp (encR a) (encR b)
  rw [h1] at h2
  refine before_total _ _ ?_ ?_
  · cases e : bytesBefore (encR a) (encR b) with
    | false => rfl
    | true =>
      rw [before_lt] at e
      rw [less_lt, e, if_pos rfl] at h2
      omega
  · intro e
    have h3 := encR_inj ha.2 hb.2 e
    have : Lib.compareBytes (encR a) (encR b) = 0 := cmpB_zero.2 e
    omega
theorem cmp_eq {a b : List Cel} (ha : rowOk a) (hb : rowOk b) (h : cmpRows a b = 0) : a = b := by
  have h1 := cmpB_rows a b ha.2 hb.2
  exact encR_inj ha.2 hb.2 (cmpB_zero.1 (by rw [h1, h]))

/-- noughts make no changes -/
def nz (l : List Cnt) : List Cnt := l.filter fun c => !(c.n == 0)
theorem made_nz (l : List Cnt) : madeL (nz l) = madeL l := by
  have h : ∀ f : Cnt → List Chg, (∀ c, c.n = 0 → f c = []) → (nz l).flatMap f = l.flatMap f := by
    intro f hf
    induction l with
    | nil => rfl
    | cons c r ih =>
      unfold nz at ih ⊢
      by_cases e : c.n = 0
      · rw [List.filter_cons_of_neg (by simpa using e), ih, List.flatMap_cons, hf c e, List.nil_append]
      · rw [List.filter_cons_of_pos (by simpa using e), List.flatMap_cons, List.flatMap_cons, ih]
  unfold madeL dels inss
  rw [h _ (fun c e => by rw [e]; rfl), h _ (fun c e => by rw [e]; rfl)]
theorem kvOf_nz (l : List Cnt) : kvOf (nz l) = (kvOf l).filter fun p => !(p.2 == 0) := by
  unfold kvOf nz
  rw [List.filter_map]
  rfl
theorem nz_get {kv : KV} (hr : rising kv) (k : List UInt8) : getK (kv.filter fun p => !(p.2 == 0)) k = getK kv k := by
  induction kv with
  | nil => rfl
  | cons p r ih =>
    have h1 := List.pairwise_cons.1 hr
    by_cases e : p.2 = 0
    · rw [List.filter_cons_of_neg (by simpa using e), ih h1.2, getK_cons]
      by_cases e2 : p.1 = k
      · rw [if_pos e2, e, ← e2]; exact getK_tail hr
      · rw [if_neg e2]
    · rw [List.filter_cons_of_pos (by simpa using e), getK_cons, ih h1.2, getK_cons]
/-- counts that tell the same make the same changes -/
theorem made_same {l m : List Cnt} (hl : rising (kvOf l)) (hm : rising (kvOf m)) (ol : ∀ c ∈ l, rowOk c.r) (om : ∀ c ∈ m, rowOk c.r) (h : ∀ k, getK (kvOf l) k = getK (kvOf m) k) : madeL l = madeL m := by
  have hn : ∀ x : List Cnt, ∀ p ∈ kvOf (nz x), p.2 ≠ 0 := fun x p hp => by
    rw [kvOf_nz] at hp
    have := (List.mem_filter.1 hp).2
    simpa using this
  have hk : kvOf (nz l) = kvOf (nz m) := kv_ext (by rw [kvOf_nz]; exact List.Pairwise.filter _ hl) (by rw [kvOf_nz]; exact List.Pairwise.filter _ hm) (hn l) (hn m) (fun k => by rw [kvOf_nz, kvOf_nz, nz_get hl, nz_get hm, h])
  have e : nz l = nz m := kvOf_inj (fun c hc => ol c (List.mem_filter.1 hc).1) (fun c hc => om c (List.mem_filter.1 hc).1) hk
  rw [← made_nz l, ← made_nz m, e]
end Go.Proofs.Ytkjiaeolodemlaf.ch
