/- The rows of right groups rise, and are rows. -/
import Derived.Test.YtbfbgdinhiglaaaGreatGrpRows
namespace Go.Proofs.YtbfbgdinhiglaaaGreat.gr
open Go.ChangeShapes Go.WideShapes Go.ChangeAt Go.RowKit
open vl pl bt
set_option linter.unusedVariables false
set_option linter.unusedSimpArgs false
theorem cmp_app : ∀ (a b x y : List Cel), a.length = b.length → cmpRows a b < 0 → cmpRows (a ++ x) (b ++ y) < 0
  | [], [], x, y, _, h => by simp [cmpRows] at h
  | [], _ :: _, x, y, hl, _ => by simp at hl
  | _ :: _, [], x, y, hl, _ => by simp at hl
  | a :: r, b :: s, x, y, hl, h => by
    rw [cmpRows] at h
    rw [List.cons_append, List.cons_append, cmpRows]
    by_cases h0 : cmpC a b = 0
    · rw [if_pos h0] at h ⊢
      exact cmp_app r s x y (by simpa using hl) h
    · rw [if_neg h0] at h ⊢
      exact h
/-- a cell that may stand in a row -/
def fineC (c : Cel) : Prop := c.ok ∧ c.wf
theorem fine_none : fineC noCel := by
  refine ⟨?_, ⟨by decide, by decide⟩, ?_⟩
  · show chk 0 0 ⟨#[]⟩ = 0
    decide
  · show 0 ≤ maxLen
    exact Nat.zero_le _
theorem fine_int (n : Int) (h : i64 n) : fineC ⟨2, n, ⟨#[]⟩⟩ := by
  refine ⟨?_, h, ?_⟩
  · show chk 2 n ⟨#[]⟩ = 0
    unfold chk
    rw [if_neg (by omega), if_neg (by rintro (h | h); exact h.1 rfl; exact h.2 rfl), if_neg (by show ¬ 64 < 0; omega)]
  · show 0 ≤ maxLen
    exact Nat.zero_le _
theorem fine_sum (l : List Tal) : ∀ b, fineC b → fineC (l.foldl sumT b) := by
  induction l with
  | nil => exact fun b h => h
  | cons t l ih =>
    intro b h
    refine ih _ ?_
    unfold sumT
    split
    · exact fine_int _ (by unfold wrap64; constructor <;> omega)
    · exact h
theorem fine_out (way : Int) (l : List Tal) : ∀ b, fineC b → (∀ t ∈ l, fineC t.1) → fineC (l.foldl (outT way) b) := by
  induction l with
  | nil => exact fun b h _ => h
  | cons t l ih =>
    intro b h ha
    refine ih _ ?_ (fun t ht => ha t (List.mem_cons_of_mem _ ht))
    unfold outT
    split
    · exact h
    · split
      · exact ha t (List.mem_cons_self ..)
      · exact h
theorem fine_fig (fn n : Int) (l : List Tal) (hn : i64 n) (h : ∀ t ∈ l, fineC t.1) : fineC (figT fn n l) := by
  unfold figT
  split
  · exact fine_int _ hn
  · split
    · exact fine_sum l _ fine_none
    · split
      · exact fine_out _ l _ fine_none h
      · exact fine_out _ l _ fine_none h
theorem tals_fine {col : Int} : ∀ (l : List Tal) (r : Int) (q : Option Cel), talsB col r q l = true → ∀ t ∈ l, chk t.1.k t.1.n t.1.s = 0 ∧ (t.1.k = 0 ∨ t.1.k = col)
  | [], r, q, h => fun t ht => by cases ht
  | u :: l, r, q, h => fun t ht => by
    rw [talsB] at h
    obtain ⟨h1, h2⟩ := (Bool.and_eq_true _ _).mp h
    rcases List.mem_cons.1 ht with e | e
    · subst e
      unfold talB valB at h1
      simp only [Bool.and_eq_true, decide_eq_true_eq, Bool.or_eq_true] at h1
      exact h1.1.1.1
    · exact tals_fine l _ _ h2 t e
/-- what a right group is -/
structure rightG (p : Pln) (g : Grp) : Prop where
  row : rowOk g.row
  rl : g.row.length = p.group.length
  n : 1 ≤ g.n ∧ g.n ≤ 1073741824
  bl : g.bags.length = p.aggs.length
  tl : ∀ j, j < p.aggs.length → ∀ t ∈ g.bags.getD j [], fineC t.1
  sum : ∀ j, j < p.aggs.length → (p.aggs.getD j (0, 0)).1 = 2 → ∀ t ∈ g.bags.getD j [], t.1.k = 0 ∨ t.1.k = 2
theorem right_at {p : Pln} {gs : List Grp} (h : grpsErr p gs = 0) (hwf : ∀ g ∈ gs, wfG g) (i : Nat) (hi : i < gs.length) : rightG p (gs.getD i default) ∧ (0 < i → cmpRows (gs.getD (i - 1) default).row (gs.getD i default).row < 0) := by
  obtain ⟨h0, hg, hl, ha⟩ := okG_of h
  have hb := allB_iff.1 ha i hi
  have hm : gs.getD i default ∈ gs := by rw [List.getD_eq_getElem?_getD, List.getElem?_eq_getElem hi]; exact List.getElem_mem hi
  have hw := hwf _ hm
  obtain ⟨g, hge⟩ : ∃ z, gs.getD i default = z := ⟨_, rfl⟩
  unfold grpB at hb
  rw [hge] at hb hw ⊢
  simp only [Bool.and_eq_true, decide_eq_true_eq, Bool.or_eq_true] at hb
  obtain ⟨⟨⟨⟨hk, ht⟩, hn1, hn2⟩, hcm⟩, hbb⟩ := hb
  unfold bagsB at hbb
  simp only [Bool.and_eq_true, decide_eq_true_eq] at hbb
  obtain ⟨hbl, hba⟩ := hbb
  have hag : ∀ j, j < p.aggs.length → p.aggs.getD j (0, 0) ∈ p.aggs := fun j hj => by rw [List.getD_eq_getElem?_getD, List.getElem?_eq_getElem hj]; exact List.getElem_mem hj
  have hbg : ∀ j, j < p.aggs.length → g.bags.getD j [] ∈ g.bags := fun j hj => by
    have hj2 : j < g.bags.length := by rw [hbl]; exact hj
    rw [List.getD_eq_getElem?_getD, List.getElem?_eq_getElem hj2]; exact List.getElem_mem hj2
  have hbe : ∀ j, j < p.aggs.length → ∀ t ∈ g.bags.getD j [], chk t.1.k t.1.n t.1.s = 0 ∧ (t.1.k = 0 ∨ ((p.aggs.getD j (0, 0)).1 ≠ 1 ∧ t.1.k = (cols p).getD (p.aggs.getD j (0, 0)).2.toNat 0)) := fun j hj t ht => by
    have hbj := allB_iff.1 hba j (by rw [hbl]; exact hj)
    unfold bagB at hbj
    split at hbj
    · have : (g.bags.getD j []).length = 0 := by simpa using hbj
      rw [List.length_eq_zero_iff.1 this] at ht
      cases ht
    · rename_i hne
      have := tals_fine _ _ _ hbj t ht
      exact ⟨this.1, this.2.imp id (fun h => ⟨hne, h⟩)⟩
  refine ⟨⟨ch.vl_rowOk hk hw.row, ?_, ⟨hn1, hn2⟩, hbl, fun j hj t ht => ?_, fun j hj h2 t ht => ?_⟩, fun hp => ?_⟩
  · have : g.row.length = (ownCols p).length := by
      unfold typedB at ht
      simp at ht
      exact ht.1
    rw [this, ownCols_len]
  · exact ⟨(hbe j hj t ht).1, (hw.tl _ (hbg j hj)).2 t ht |>.2.1, ((hw.tl _ (hbg j hj)).2 t ht).1⟩
  · rcases (hbe j hj t ht).2 with h | ⟨_, h⟩
    · exact Or.inl h
    · right
      rw [h]
      have h3 := (planErr_ok h0).2.2.2.2.2.2.2 _ (hag j hj)
      unfold aggOk at h3
      rw [if_neg (by rw [h2]; decide)] at h3
      exact h3.2 h2
  · rcases hcm with h | h
    · omega
    · exact h
theorem rowC_ok {p : Pln} {g : Grp} (h0 : planErr p = 0) (hg : p.grouped = true) (h : rightG p g) : rowOk (g.row ++ figsG p g) := by
  have hf := group_few h0 hg
  refine ⟨by rw [List.length_append, figsG_len, h.rl]; omega, fun c hc => ?_⟩
  rcases List.mem_append.1 hc with hc | hc
  · exact h.row.2 c hc
  · unfold figsG at hc
    obtain ⟨j, hj, rfl⟩ := List.mem_map.1 hc
    exact fine_fig _ _ _ ⟨by have := h.n.1; omega, by have := h.n.2; omega⟩ (h.tl j (List.mem_range.1 hj))
theorem view_right {p : Pln} {gs : List Grp} (h : grpsErr p gs = 0) (hwf : ∀ g ∈ gs, wfG g) : ch.viewOk (gs.map (rowC p)) ∧ ch.wfView (gs.map (rowC p)) := by
  obtain ⟨h0, hg, hl, ha⟩ := okG_of h
  have hat : ∀ i, i < gs.length → (gs.map (rowC p)).getD i default = rowC p (gs.getD i default) := fun i hi => by
    rw [List.getD_eq_getElem?_getD, List.getElem?_map, List.getD_eq_getElem?_getD, List.getElem?_eq_getElem hi]; rfl
  refine ⟨⟨by rw [List.length_map]; exact hl, fun i hi => ?_⟩, fun c hc => ?_⟩
  · rw [List.length_map] at hi
    obtain ⟨hr, hc⟩ := right_at h hwf i hi
    unfold ch.okAt
    rw [hat i hi]
    refine ⟨keyErr_ok (rowC_ok h0 hg hr), by show (1 : Int) ≤ 1; omega, by show (1 : Int) ≤ 1073741824; omega, fun hp => ?_⟩
    rw [hat (i - 1) (by omega)]
    exact cmp_app _ _ _ _ (by rw [hr.rl, (right_at h hwf (i - 1) (by omega)).1.rl]) (hc hp)
  · obtain ⟨g, hm, rfl⟩ := List.mem_map.1 hc
    obtain ⟨i, hi, rfl⟩ := List.getElem_of_mem hm
    have e : gs.getD i default = gs[i] := by rw [List.getD_eq_getElem?_getD, List.getElem?_eq_getElem hi]; rfl
    have hr := (right_at h hwf i hi).1
    rw [e] at hr
    have hok := rowC_ok h0 hg hr
    exact ⟨ch.rowOk_wf hok, by have := hok.1; show (gs[i].row ++ figsG p gs[i]).length ≤ _; omega, by show (-9223372036854775808 : Int) ≤ 1 ∧ (1 : Int) ≤ _; omega⟩
theorem view_take {v : List ch.Cnt} (h : ch.viewOk v ∧ ch.wfView v) (k : Nat) : ch.viewOk (v.take k) ∧ ch.wfView (v.take k) := by
  refine ⟨⟨by rw [List.length_take]; have := h.1.1; omega, fun i hi => ?_⟩, fun c hc => h.2 c (List.mem_of_mem_take hc)⟩
  rw [List.length_take] at hi
  have hat : ∀ j, j < k → (v.take k).getD j default = v.getD j default := fun j hj => by
    rw [List.getD_eq_getElem?_getD, List.getElem?_take, if_pos hj, List.getD_eq_getElem?_getD]
  have := h.1.2 i (by omega)
  unfold ch.okAt at this ⊢
  rw [hat i (by omega)]
  refine ⟨this.1, this.2.1, this.2.2.1, fun hp => ?_⟩
  rw [hat (i - 1) (by omega)]
  exact this.2.2.2 hp
end Go.Proofs.YtbfbgdinhiglaaaGreat.gr
