import Derived.Test.YtbfbgdinhiglaaaGreatS22
import Derived.Test.YtbfbgdinhiglaaaGreatS26
import Derived.Test.YtbfbgdinhiglaaaGreatS21
import Derived.Test.YtbfbgdinhiglaaaGreatMgChgB
import Derived.Test.YtbfbgdinhiglaaaGreatMgChgD
/- What a change leaves of right groups is right. -/
namespace Go.Proofs.YtbfbgdinhiglaaaGreat.gr
open Go.ChangeShapes Go.WideShapes Go.ChangeAt Go.RowKit
open vl pl bt
set_option linter.unusedVariables false
set_option linter.unusedSimpArgs false
/-- a figure's bag, of n rows -/
def bagJ (p : Pln) (j : Nat) (n : Int) (l : List Tal) : Prop := if (p.aggs.getD j (0, 0)).1 = 1 then l = [] else bagR ((cols p).getD (p.aggs.getD j (0, 0)).2.toNat 0) n l
/-- a group whose number says what its bags say -/
structure grpR (p : Pln) (g : Grp) : Prop where
  row : ∀ z ∈ g.row, fineC z
  ty : typedB g.row (ownCols p) = true
  bl : g.bags.length = p.aggs.length
  bag : ∀ j, j < p.aggs.length → bagJ p j g.n (g.bags.getD j [])
def upG (gs : List Grp) : Prop := (gs.map (·.row)).Pairwise (fun a b => cmpRows a b < 0)
/-- right groups -/
structure gsR (p : Pln) (gs : List Grp) : Prop where
  each : ∀ g ∈ gs, grpR p g ∧ 1 ≤ g.n ∧ g.n ≤ 1073741824
  up : upG gs
  many : gs.length ≤ 4096
/-- a row of the plan's joined rows -/
structure rowF (p : Pln) (r : List Cel) : Prop where
  len : r.length = (cols p).length
  fine : ∀ z ∈ r, fineC z
  ty : ∀ i, i < r.length → (r.getD i default).k = 0 ∨ (r.getD i default).k = (cols p).getD i 0
theorem row_len {p : Pln} {g : Grp} (h : grpR p g) : g.row.length = p.group.length := by
  have := h.ty
  unfold typedB at this
  simp only [Bool.and_eq_true, decide_eq_true_eq] at this
  rw [this.1, ownCols_len]
theorem pair_up : ∀ {l : List (List Cel)}, (∀ a ∈ l, ∀ z ∈ a, fineC z) → (∀ i, i + 1 < l.length → cmpRows (l.getD i []) (l.getD (i + 1) []) < 0) → l.Pairwise (fun a b => cmpRows a b < 0)
  | [], _, _ => List.Pairwise.nil
  | [a], _, _ => List.pairwise_singleton ..
  | a :: b :: l, hF, h => by
    have ih := pair_up (l := b :: l) (fun x hx => hF x (List.mem_cons_of_mem _ hx)) (fun i hi => by simpa using h (i + 1) (by simpa using hi))
    have hab : cmpRows a b < 0 := by simpa using h 0 (by simp)
    refine List.pairwise_cons.2 ⟨fun y hy => ?_, ih⟩
    rcases List.mem_cons.1 hy with rfl | hy
    · exact hab
    · exact rows_more (hF a (List.mem_cons_self ..)) (hF b (List.mem_cons_of_mem _ (List.mem_cons_self ..))) (hF y (List.mem_cons_of_mem _ (List.mem_cons_of_mem _ hy))) hab ((List.pairwise_cons.1 ih).1 y hy)
theorem gs_right {p : Pln} {gs : List Grp} (h : grpsErr p gs = 0) (hwf : ∀ g ∈ gs, wfG g) : gsR p gs := by
  obtain ⟨h0, hg, hl, ha⟩ := okG_of h
  have hat : ∀ i, i < gs.length → (grpR p (gs.getD i default) ∧ 1 ≤ (gs.getD i default).n ∧ (gs.getD i default).n ≤ 1073741824) ∧ (0 < i → cmpRows (gs.getD (i - 1) default).row (gs.getD i default).row < 0) := fun i hi => by
    obtain ⟨hr, hc⟩ := right_at h hwf i hi
    refine ⟨⟨⟨hr.row.2, ?_, hr.bl, fun j hj => ?_⟩, hr.n⟩, hc⟩
    · have hb := allB_iff.1 ha i hi
      unfold grpB at hb
      simp only [Bool.and_eq_true] at hb
      exact hb.1.1.1.2
    · have hb := allB_iff.1 ha i hi
      unfold grpB bagsB at hb
      simp only [Bool.and_eq_true, decide_eq_true_eq] at hb
      have hbj := allB_iff.1 hb.2.2 j (by rw [hr.bl]; exact hj)
      unfold bagB at hbj
      unfold bagJ
      split
      · rename_i e
        rw [if_pos e] at hbj
        have : ((gs.getD i default).bags.getD j []).length = 0 := by simpa using hbj
        exact List.length_eq_zero_iff.1 this
      · rename_i e
        rw [if_neg e] at hbj
        exact (tals_right _ _ _ hbj (fun t ht => (hr.tl j hj t ht).2)).1
  refine ⟨fun g hm => ?_, ?_, hl⟩
  · obtain ⟨i, hi, rfl⟩ := List.getElem_of_mem hm
    have e : gs.getD i default = gs[i] := by rw [List.getD_eq_getElem?_getD, List.getElem?_eq_getElem hi]; rfl
    rw [← e]
    exact (hat i hi).1
  · refine pair_up (fun a ha => ?_) (fun i hi => ?_)
    · obtain ⟨g, hg, rfl⟩ := List.mem_map.1 ha
      obtain ⟨i, hi, rfl⟩ := List.getElem_of_mem hg
      have e : gs.getD i default = gs[i] := by rw [List.getD_eq_getElem?_getD, List.getElem?_eq_getElem hi]; rfl
      rw [← e]
      exact (hat i hi).1.1.row
    · rw [List.length_map] at hi
      have := (hat (i + 1) hi).2 (by omega)
      simp only [Nat.add_sub_cancel] at this
      have h1 : i < gs.length := by omega
      simpa [List.getD_eq_getElem?_getD, hi, h1] using this
theorem gs_err {p : Pln} {gs : List Grp} (h0 : planErr p = 0) (hg : p.grouped = true) (h : gsR p gs) : grpsErr p gs = 0 := by
  have hf := group_few h0 hg
  unfold grpsErr
  rw [if_neg (by simp [h0]), if_neg (by simp [hg]), if_neg (by have := h.many; omega), if_neg]
  rw [Bool.not_eq_false, allB_iff]
  intro i hi
  have hm := getD_mm hi
  obtain ⟨hr, h1, h2⟩ := h.each _ hm
  unfold grpB bagsB
  simp only [Bool.and_eq_true, decide_eq_true_eq, Bool.or_eq_true]
  refine ⟨⟨⟨⟨keyErr_ok ⟨by rw [row_len hr]; omega, hr.row⟩, hr.ty⟩, h1, h2⟩, ?_⟩, hr.bl, ?_⟩
  · rcases Nat.eq_zero_or_pos i with e | e
    · exact .inl e
    · right
      have hp := List.pairwise_iff_getElem.1 h.up (i - 1) i (by rw [List.length_map]; omega) (by rw [List.length_map]; omega) (by omega)
      have h3 : i - 1 < gs.length := by omega
      simpa [List.getD_eq_getElem?_getD, hi, h3] using hp
  · rw [allB_iff]
    intro j hj
    have hb := hr.bag j (by rw [← hr.bl]; exact hj)
    unfold bagJ at hb
    unfold bagB
    split
    · rename_i e
      rw [if_pos e] at hb
      rw [hb]; rfl
    · rename_i e
      rw [if_neg e] at hb
      exact right_tals _ _ _ hb (fun c hc => by cases hc)
theorem bag_len {p : Pln} {j : Nat} {n : Int} {l : List Tal} (h : bagJ p j n l) (hn : 0 ≤ n ∧ n ≤ 1073741824) : l.length ≤ 1073741824 ∧ ∀ t ∈ l, fineC t.1 ∧ 1 ≤ t.2 ∧ t.2 ≤ 1073741824 := by
  unfold bagJ at h
  split at h
  · subst h; exact ⟨by simp, fun t ht => by cases ht⟩
  · have hs := h.sum
    have h1 := sum_least (fun t ht => (h.fine t ht).2.2)
    have h2 := sum_each (fun t ht => (h.fine t ht).2.2)
    refine ⟨by omega, fun t ht => ⟨(h.fine t ht).1, (h.fine t ht).2.2, ?_⟩⟩
    have := h2 t ht
    omega
theorem gs_wf {p : Pln} {gs : List Grp} (h0 : planErr p = 0) (hg : p.grouped = true) (h : gsR p gs) : ∀ g ∈ gs, wfG g := fun g hm => by
  have hf := group_few h0 hg
  obtain ⟨hr, h1, h2⟩ := h.each g hm
  refine ⟨fun z hz => (hr.row z hz).2, by rw [row_len hr]; omega, ⟨by omega, by omega⟩, by rw [hr.bl]; omega, fun l hl => ?_⟩
  obtain ⟨j, hj, rfl⟩ := List.getElem_of_mem hl
  have hb := bag_len (hr.bag j (by rw [← hr.bl]; exact hj)) ⟨by omega, h2⟩
  have e : g.bags.getD j [] = g.bags[j] := by rw [List.getD_eq_getElem?_getD, List.getElem?_eq_getElem hj]; rfl
  rw [e] at hb
  refine ⟨by have := hb.1; omega, fun t ht => ?_⟩
  have ht2 := hb.2 t ht
  exact ⟨ht2.1.2.2, ht2.1.2.1, by unfold i64; omega⟩
/-- what a group's row is of -/
theorem key_fine {p : Pln} {r : List Cel} (h0 : planErr p = 0) (h : rowF p r) : (∀ z ∈ pickR r p.group, fineC z) ∧ typedB (pickR r p.group) (ownCols p) = true := by
  have hin := group_in h0
  have hat : ∀ x ∈ p.group, x.toNat < r.length := fun x hx => by have := hin x hx; rw [h.len]; omega
  refine ⟨fun z hz => ?_, ?_⟩
  · unfold pickR at hz
    obtain ⟨x, hx, rfl⟩ := List.mem_map.1 hz
    exact h.fine _ (getD_mm (hat x hx))
  · unfold typedB
    rw [ownCols_len]
    unfold pickR ownCols
    simp only [Bool.and_eq_true, decide_eq_true_eq, List.length_map, true_and]
    rw [allB_iff]
    intro i hi
    have h1 := h.ty (p.group[i]).toNat (hat _ (List.getElem_mem hi))
    unfold cellB
    simpa [List.getD_eq_getElem?_getD, hi] using h1
theorem new_right {p : Pln} {r : List Cel} (h0 : planErr p = 0) (h : rowF p r) : grpR p (newG p (pickR r p.group)) := by
  obtain ⟨h1, h2⟩ := key_fine h0 h
  refine ⟨h1, h2, by simp [newG], fun j hj => ?_⟩
  have e : (newG p (pickR r p.group)).bags.getD j [] = [] := by simp [newG, List.getD_eq_getElem?_getD, List.getElem?_replicate, hj]
  rw [e]
  unfold bagJ
  split
  · rfl
  · exact ⟨fun t ht => absurd ht List.not_mem_nil, List.Pairwise.nil, rfl⟩
theorem col_right {p : Pln} {r : List Cel} (h0 : planErr p = 0) (hg : p.grouped = true) (h : rowF p r) {j : Nat} (hj : j < p.aggs.length) (hne : (p.aggs.getD j (0, 0)).1 ≠ 1) : fineC (r.getD (p.aggs.getD j (0, 0)).2.toNat default) ∧ ((r.getD (p.aggs.getD j (0, 0)).2.toNat default).k = 0 ∨ (r.getD (p.aggs.getD j (0, 0)).2.toNat default).k = (cols p).getD (p.aggs.getD j (0, 0)).2.toNat 0) ∧ 0 ≤ (p.aggs.getD j (0, 0)).2 ∧ (p.aggs.getD j (0, 0)).2.toNat < r.length := by
  have hm : p.aggs.getD j (0, 0) ∈ p.aggs := by rw [List.getD_eq_getElem?_getD, List.getElem?_eq_getElem hj]; exact List.getElem_mem hj
  have h2 := (agg_in h0 hm hg).2 hne
  have h3 : (p.aggs.getD j (0, 0)).2.toNat < r.length := by rw [h.len]; exact h2.2
  exact ⟨h.fine _ (getD_mm h3), h.ty _ h3, h2.1, h3⟩
theorem bags_at {f : Nat → List Tal → List Tal} {bs : List (List Tal)} {j : Nat} (hj : j < bs.length) : ((List.range bs.length).map fun j => f j (bs.getD j [])).getD j [] = f j (bs.getD j []) := by
  simp [List.getD_eq_getElem?_getD, hj]
theorem come_right {p : Pln} {r : List Cel} {g : Grp} (h0 : planErr p = 0) (hg : p.grouped = true) (h : rowF p r) (hr : grpR p g) : grpR p (comeG p r g) := by
  refine ⟨hr.row, hr.ty, by simp [comeG, hr.bl], fun j hj => ?_⟩
  have hb := hr.bag j hj
  have e : (comeG p r g).bags.getD j [] = comeB p.aggs r j (g.bags.getD j []) := bags_at (f := fun j => comeB p.aggs r j) (by rw [hr.bl]; exact hj)
  rw [e]
  unfold bagJ at hb ⊢
  unfold comeB
  split
  · rename_i e1; rw [if_pos e1] at hb; exact hb
  · rename_i e1
    rw [if_neg e1] at hb
    have hc := col_right h0 hg h hj e1
    exact bag_add hb hc.1 hc.2.1
theorem go_right {p : Pln} {r : List Cel} {g : Grp} (hr : grpR p g) (hm : mayG p r g = true) : grpR p (goG p r g) := by
  refine ⟨hr.row, hr.ty, by simp [goG, hr.bl], fun j hj => ?_⟩
  have hb := hr.bag j hj
  have e : (goG p r g).bags.getD j [] = goB p.aggs r j (g.bags.getD j []) := bags_at (f := fun j => goB p.aggs r j) (by rw [hr.bl]; exact hj)
  rw [e]
  unfold bagJ at hb ⊢
  unfold goB
  unfold mayG at hm
  have hmj := allB_iff.1 hm j (by rw [hr.bl]; exact hj)
  split
  · rename_i e1; rw [if_pos e1] at hb; exact hb
  · rename_i e1
    rw [if_neg e1] at hb
    refine bag_sub hb ?_
    rw [decide_eq_false e1, Bool.false_or] at hmj
    exact hmj
theorem hasG_lt {gs : List Grp} {k : List Cel} (h : hasG gs k = true) : idxG gs k < gs.length ∧ cmpRows (gs.getD (idxG gs k) default).row k = 0 := by
  unfold hasG at h
  simpa using h
theorem up_ins {gs : List Grp} {g : Grp} (hF : ∀ x ∈ gs, ∀ z ∈ x.row, fineC z) (hg : ∀ z ∈ g.row, fineC z) (h : upG gs) (hh : hasG gs g.row = false) : upG (gs.take (idxG gs g.row) ++ g :: gs.drop (idxG gs g.row)) := by
  have e := take_while (fun t : Grp => decide (cmpRows t.row g.row < 0)) gs
  have em := while_map (fun t : Grp => t.row) (fun z => decide (cmpRows z g.row < 0)) gs
  unfold upG
  rw [List.map_append, List.map_cons]
  unfold idxG
  rw [e.1, e.2, em.1, em.2]
  refine ins_up (F := fun a => ∀ z ∈ a, fineC z) (cmp := cmpRows) (fun a b d ha hb hd => rows_more ha hb hd) (fun a b ha hb => rows_swap ha hb) hg (fun x hx => ?_) h (fun x hx => ?_)
  · obtain ⟨t, ht, rfl⟩ := List.mem_map.1 hx
    exact hF t ht
  · rw [← em.2, ← e.2, List.head?_map] at hx
    have hlt : idxG gs g.row < gs.length := by
      rcases Nat.lt_or_ge (idxG gs g.row) gs.length with h1 | h1
      · exact h1
      · have : gs.drop (gs.takeWhile fun t : Grp => decide (cmpRows t.row g.row < 0)).length = [] := List.drop_of_length_le h1
        simp [this] at hx
    have h3 : (gs.drop (gs.takeWhile fun t : Grp => decide (cmpRows t.row g.row < 0)).length).head? = some (gs.getD (idxG gs g.row) default) := by
      rw [List.head?_drop, List.getD_eq_getElem?_getD]
      show gs[idxG gs g.row]? = _
      rw [List.getElem?_eq_getElem hlt]; rfl
    rw [h3] at hx
    have hx2 : (gs.getD (idxG gs g.row) default).row = x := by simpa using hx
    rw [← hx2]
    intro hz
    unfold hasG at hh
    rw [decide_eq_true hlt, decide_eq_true hz] at hh
    cases hh
theorem split_gs (L : List Grp) (i : Nat) (h : i < L.length) : L = L.take i ++ L.getD i default :: L.drop (i + 1) := split_at L i default h
theorem set_right {p : Pln} {gs : List Grp} {i : Nat} {g' : Grp} (h : gsR p gs) (hi : i < gs.length) (hrow : g'.row = (gs.getD i default).row) (hg : grpR p g' ∧ 1 ≤ g'.n ∧ g'.n ≤ 1073741824) : gsR p (gs.take i ++ g' :: gs.drop (i + 1)) := by
  refine ⟨fun x hx => ?_, ?_, ?_⟩
  · rcases List.mem_append.1 hx with hx | hx
    · exact h.each x (List.mem_of_mem_take hx)
    · rcases List.mem_cons.1 hx with rfl | hx
      · exact hg
      · exact h.each x (List.mem_of_mem_drop hx)
  · have := h.up
    unfold upG at this ⊢
    rw [split_gs gs i hi] at this
    rw [List.map_append, List.map_cons] at this ⊢
    rw [hrow]
    exact this
  · have := h.many
    have e := congrArg List.length (split_gs gs i hi)
    simp only [List.length_append, List.length_cons] at e ⊢
    omega
theorem do_right {p : Pln} {r : List Cel} {gs : List Grp} {k : Int} (h0 : planErr p = 0) (hg : p.grouped = true) (hr : rowF p r) (h : gsR p gs) (hd : (doG p k r gs).1 = 0) : gsR p (doG p k r gs).2 := by
  obtain ⟨kf, kt⟩ := key_fine h0 hr
  unfold doG at hd ⊢
  by_cases hk : k = 2 ∨ k = 3
  · rw [if_pos hk] at hd ⊢
    by_cases hh : hasG gs (pickR r p.group) = false
    · rw [if_pos hh] at hd; cases hd
    · rw [if_neg hh] at hd ⊢
      have hh' : hasG gs (pickR r p.group) = true := by simpa using hh
      obtain ⟨hi, hc⟩ := hasG_lt hh'
      obtain ⟨e1, e2, e3⟩ := h.each _ (getD_mm hi)
      by_cases hm : mayG p r (gs.getD (idxG gs (pickR r p.group)) default) = false
      · rw [if_pos hm] at hd; cases hd
      · rw [if_neg hm] at hd ⊢
        have hm' : mayG p r (gs.getD (idxG gs (pickR r p.group)) default) = true := by simpa using hm
        by_cases hn : (gs.getD (idxG gs (pickR r p.group)) default).n - 1 = 0
        · rw [if_pos hn]
          dsimp only
          refine ⟨fun x hx => ?_, ?_, ?_⟩
          · rcases List.mem_append.1 hx with hx | hx
            · exact h.each x (List.mem_of_mem_take hx)
            · exact h.each x (List.mem_of_mem_drop hx)
          · have := h.up
            unfold upG at this ⊢
            rw [split_gs gs _ hi, List.map_append, List.map_cons] at this
            rw [List.map_append]
            exact this.sublist (List.Sublist.append (List.Sublist.refl _) (List.sublist_cons_self ..))
          · have := h.many
            have e := congrArg List.length (split_gs gs _ hi)
            simp only [List.length_append, List.length_cons] at e ⊢
            omega
        · rw [if_neg hn]
          dsimp only
          exact set_right h hi rfl ⟨go_right e1 hm', by show 1 ≤ _ - 1; omega, by show _ - 1 ≤ _; omega⟩
  · rw [if_neg hk] at hd ⊢
    by_cases hh : hasG gs (pickR r p.group) = true
    · rw [if_pos hh] at hd ⊢
      obtain ⟨hi, hc⟩ := hasG_lt hh
      obtain ⟨e1, e2, e3⟩ := h.each _ (getD_mm hi)
      by_cases hn : (gs.getD (idxG gs (pickR r p.group)) default).n + 1 > 1073741824 ∨ 4096 < gs.length
      · rw [if_pos hn] at hd; cases hd
      · rw [if_neg hn]
        dsimp only
        exact set_right h hi rfl ⟨come_right h0 hg hr e1, by show 1 ≤ _ + 1; omega, by show _ + 1 ≤ _; omega⟩
    · rw [if_neg hh] at hd ⊢
      by_cases hn : 4096 < gs.length + 1
      · rw [if_pos hn] at hd; cases hd
      · rw [if_neg hn]
        dsimp only
        refine ⟨fun x hx => ?_, ?_, ?_⟩
        · rcases List.mem_append.1 hx with hx | hx
          · exact h.each x (List.mem_of_mem_take hx)
          · rcases List.mem_cons.1 hx with rfl | hx
            · exact ⟨come_right h0 hg hr (new_right h0 hr), by show (1 : Int) ≤ 0 + 1; omega, by show (0 : Int) + 1 ≤ _; omega⟩
            · exact h.each x (List.mem_of_mem_drop hx)
        · exact up_ins (g := comeG p r (newG p (pickR r p.group))) (fun x hx => (h.each x hx).1.row) kf h.up (by show hasG gs (pickR r p.group) = false; simpa using hh)
        · simp only [List.length_append, List.length_cons, List.length_take, List.length_drop]
          have := idxG_le gs (pickR r p.group)
          omega
end Go.Proofs.YtbfbgdinhiglaaaGreat.gr
/- checkChanges: what keeps changes from being done to groups. -/
namespace Go.Proofs.YtbfbgdinhiglaaaGreat.gr
open Go.ChangeShapes Go.WideShapes Go.ChangeAt Go.RowKit
open vl pl bt
set_option linter.unusedVariables false
set_option linter.unusedSimpArgs false
attribute [local go_sem] Oper.semAt_some
theorem form3_any (a : Option Addr) (cap : Nat) (l : List ch.Chg) (w : World) (hv : ch.chgsAt w a l) (hw : ch.wfChgs l) (hl : l.length ≤ 9223372036854775807) :
    Calls Tryz.prog 19 #[.slice a l.length cap] w fun e w' => e = .returned (.int .i64 (ch.formErr l)) ∧ Below w.heap.size w w' := by
  have KK := ch.keysOf_any a cap l w hv hw hl
  obtain ⟨n, hn⟩ : ∃ n, l.length = n := ⟨_, rfl⟩
  rw [hn] at KK
  rw [hn]
  go_enter Tryz.func19, Tryz.ntmps19
  go_wp2_with fail
  refine KK.mono ?_
  rintro e w1 ⟨hres, hb⟩
  rcases hres with ⟨h1, _, ad, c, rfl, _⟩ | ⟨_, rfl⟩
  · go_wp2
    go_ret
    exact ⟨ch.ret_ferr h1.symm, hb⟩
  · go_wp2
    go_ret
    exact ⟨rfl, hb⟩
set_option maxRecDepth 100000 in
set_option maxHeartbeats 1000000 in
theorem rowRight_any (ra ca : Option Addr) (rc cc : Nat) (r : List Cel) (cs : List Int) (w : World) (hrl : r.length ≤ 9223372036854775807) (hcl : cs.length ≤ 1000) (hr : vl.rowAt w ra r) (hcs : intsAt w ca cs) :
    Calls Tryz.prog 80 #[.slice ra r.length rc, .slice ca cs.length cc] w fun e w' => e = .returned (.int .i64 (fErr cs r)) ∧ Below w.heap.size w w' := by
  have KT : Hid (∀ w1, Below w.heap.size w w1 → Calls Tryz.prog 75 #[.slice ra r.length rc, .slice ca cs.length cc] w1 fun e w' => e = .returned (.bool (typedB r cs)) ∧ Below w1.heap.size w1 w') := fun w1 hb => typed_any ra ca rc cc r cs w1 hrl (by omega) (vl.rowAt_below hr hb) (intsAt_below hcs hb)
  obtain ⟨R, hR⟩ : ∃ z, fErr cs r = z := ⟨_, rfl⟩
  have HR : Hid (fErr cs r = R) := hR
  unfold fErr at HR
  rw [hR]
  obtain ⟨n, hn⟩ : ∃ n, r.length = n := ⟨_, rfl⟩
  obtain ⟨m, hm⟩ : ∃ n, cs.length = n := ⟨_, rfl⟩
  obtain ⟨T, hT⟩ : ∃ n, typedB r cs = n := ⟨_, rfl⟩
  rw [hn, hm, hT] at HR KT
  rw [hn, hm]
  rw [hn] at hrl
  rw [hm] at hcl
  clear hR hn hm hT hr hcs
  go_enter Tryz.func80, Tryz.ntmps80
  by_cases h1 : n = m
  · subst h1
    have h1' : ((n : Int) != (n : Int)) = false := by simp
    cases T with
    | true =>
      have HE : Hid (0 = R) := by show _ = _; rw [← HR.out]; simp
      go_wp2_with (go_at_call 75; refine (KT.out _ (Below.refl _ _)).mono ?_; rintro e w1 ⟨rfl, hb1⟩)
      go_ret
      exact ⟨ret_int HE.out, hb1⟩
    | false =>
      have HE : Hid (5 = R) := by show _ = _; rw [← HR.out]; simp
      go_wp2_with (go_at_call 75; refine (KT.out _ (Below.refl _ _)).mono ?_; rintro e w1 ⟨rfl, hb1⟩)
      go_ret
      exact ⟨ret_int HE.out, hb1⟩
  · have h1' : ((n : Int) != (m : Int)) = true := by simp; omega
    have HE : Hid (2 = R) := by show _ = _; rw [← HR.out]; simp [h1]
    go_wp2
    go_ret
    exact ⟨ret_int HE.out, Below.refl _ _⟩
/-- what keeps changes from being done to a plan's groups -/
noncomputable def chgsErr (p : Pln) (l : List ch.Chg) : Int := if ch.formErr l ≠ 0 then ch.formErr l else ch.first (fun i => fErr (cols p) (l.getD i default).r) l.length
set_option maxRecDepth 100000 in
set_option maxHeartbeats 8000000 in
theorem checkChanges_any (p : Pln) (x : PA) (a : Option Addr) (cap : Nat) (l : List ch.Chg) (w : World) (h0 : planErr p = 0) (hp : planAt w p x) (hv : ch.chgsAt w a l) (hw : ch.wfChgs l) (hl : l.length ≤ 9223372036854775807) :
    Calls Tryz.prog 37 #[planV p x, .slice a l.length cap] w fun e w' => e = .returned (.int .i64 (chgsErr p l)) ∧ Below w.heap.size w w' := by
  have hf := few_ok h0
  have hcl : (cols p).length ≤ 800 := by unfold cols; rw [List.length_append]; omega
  have KF : Hid (∀ w1, Below w.heap.size w w1 → Calls Tryz.prog 19 #[.slice a l.length cap] w1 fun e w' => e = .returned (.int .i64 (ch.formErr l)) ∧ Below w1.heap.size w1 w') := fun w1 hb => form3_any a cap l w1 (ch.chgsAt_below hv hb) hw hl
  have KJ : Hid (∀ w1, Below w.heap.size w w1 → Calls Tryz.prog 72 #[planV p x] w1 fun e w' => (∃ ad cap, e = .returned (.slice ad (cols p).length cap) ∧ intsAt w' ad (cols p)) ∧ Below w1.heap.size w1 w') := fun w1 hb =>
    (joined_any p x w1 (planAt_below hp hb) hf.1.1 hf.2.1 (by omega) (by omega)).mono (fun e w' ⟨⟨ad, cp, h1, h2⟩, h3⟩ => ⟨⟨ad, cp, h1, (ownI_at h2).1⟩, h3⟩)
  have HC : Hid (∀ i, i < l.length → ∃ b off ra rc, a = some ⟨b, off, none⟩ ∧ w.cell? ⟨b, off + i * 2, none⟩ = some (.int .i64 (l.getD i default).k) ∧ w.cell? ⟨b, off + i * 2 + 1, none⟩ = some (.slice ra (l.getD i default).r.length rc) ∧ vl.rowAt w ra (l.getD i default).r ∧ (l.getD i default).r.length ≤ 9223372036854775807) := fun i hi => by
    obtain ⟨b, o, ra, rc, e, x1, x2, x3⟩ := hv i hi
    exact ⟨b, o, ra, rc, e, x1, x2, x3, (ch.wfc_at hw i hi).2.1⟩
  obtain ⟨R, hR⟩ : ∃ z, chgsErr p l = z := ⟨_, rfl⟩
  have HR : Hid (chgsErr p l = R) := hR
  unfold chgsErr at HR
  rw [hR]
  clear hR hw hv hf h0
  obtain ⟨FE, hFE⟩ : ∃ z, ch.formErr l = z := ⟨_, rfl⟩
  rw [hFE] at KF HR
  obtain ⟨CO, hCO⟩ : ∃ z, cols p = z := ⟨_, rfl⟩
  rw [hCO] at KJ HR hcl
  obtain ⟨cn, hcn⟩ : ∃ z, CO.length = z := ⟨_, rfl⟩
  have HCN : Hid (CO.length = cn) := hcn
  obtain ⟨n, hn⟩ : ∃ z, l.length = z := ⟨_, rfl⟩
  rw [hn] at KF HR HC hl ⊢
  rw [hcn] at KJ hcl
  clear hFE hCO hcn hn hp
  obtain ⟨kind, mode, low, high, size, limit, left, right, lkeys, rkeys, grouped, group, aggs⟩ := p
  obtain ⟨la, lc, rr, rc, lk, lkc, rk, rkc, ga, gc, ag, ac⟩ := x
  unfold planV at KJ ⊢
  dsimp only at KJ ⊢
  obtain ⟨n6, h6⟩ : ∃ n, left.length = n := ⟨_, rfl⟩
  obtain ⟨n7, h7⟩ : ∃ n, right.length = n := ⟨_, rfl⟩
  obtain ⟨n8, h8⟩ : ∃ n, lkeys.length = n := ⟨_, rfl⟩
  obtain ⟨n9, h9⟩ : ∃ n, rkeys.length = n := ⟨_, rfl⟩
  obtain ⟨n11, h11⟩ : ∃ n, group.length = n := ⟨_, rfl⟩
  obtain ⟨n12, h12⟩ : ∃ n, aggs.length = n := ⟨_, rfl⟩
  simp only [h6, h7, h8, h9, h11, h12] at KJ ⊢
  clear h6 h7 h8 h9 h11 h12
  go_enter Tryz.func37, Tryz.ntmps37
  go_wp2_with fail
  generalize hV : (World.alloc w _) = V
  have hb0 : Below w.heap.size w V := by rw [← hV]; exact (Below.refl _ _).alloc (Nat.le_refl _) _
  have v0 : V.cell? ⟨w.heap.size, 0, none⟩ = some (.int .i64 kind) := by subst hV; go_simp
  have v1 : V.cell? ⟨w.heap.size, 1, none⟩ = some (.int .i64 mode) := by subst hV; go_simp
  have v2 : V.cell? ⟨w.heap.size, 2, none⟩ = some (.int .i64 low) := by subst hV; go_simp
  have v3 : V.cell? ⟨w.heap.size, 3, none⟩ = some (.int .i64 high) := by subst hV; go_simp
  have v4 : V.cell? ⟨w.heap.size, 4, none⟩ = some (.int .i64 size) := by subst hV; go_simp
  have v5 : V.cell? ⟨w.heap.size, 5, none⟩ = some (.int .i64 limit) := by subst hV; go_simp
  have v6 : V.cell? ⟨w.heap.size, 6, none⟩ = some (.slice la n6 lc) := by subst hV; go_simp
  have v7 : V.cell? ⟨w.heap.size, 7, none⟩ = some (.slice rr n7 rc) := by subst hV; go_simp
  have v8 : V.cell? ⟨w.heap.size, 8, none⟩ = some (.slice lk n8 lkc) := by subst hV; go_simp
  have v9 : V.cell? ⟨w.heap.size, 9, none⟩ = some (.slice rk n9 rkc) := by subst hV; go_simp
  have v10 : V.cell? ⟨w.heap.size, 10, none⟩ = some (.bool grouped) := by subst hV; go_simp
  have v11 : V.cell? ⟨w.heap.size, 11, none⟩ = some (.slice ga n11 gc) := by subst hV; go_simp
  have v12 : V.cell? ⟨w.heap.size, 12, none⟩ = some (.slice ag n12 ac) := by subst hV; go_simp
  clear hV
  refine (KF.out _ hb0).mono ?_
  rintro e w1 ⟨rfl, hb1⟩
  have hbw : Below w.heap.size w w1 := hb0.trans (hb1.mono hb0.size)
  replace v0 := cell_later hb1 v0
  replace v1 := cell_later hb1 v1
  replace v2 := cell_later hb1 v2
  replace v3 := cell_later hb1 v3
  replace v4 := cell_later hb1 v4
  replace v5 := cell_later hb1 v5
  replace v6 := cell_later hb1 v6
  replace v7 := cell_later hb1 v7
  replace v8 := cell_later hb1 v8
  replace v9 := cell_later hb1 v9
  replace v10 := cell_later hb1 v10
  replace v11 := cell_later hb1 v11
  replace v12 := cell_later hb1 v12
  clear hb1 hb0 KF
  by_cases h0 : FE = 0
  · subst h0
    have HR2 : Hid (ch.first (fun i => fErr CO (l.getD i default).r) n = R) := by have := HR.out; rw [if_neg (by simp)] at this; exact this
    clear HR
    go_wp2_with (go_at_call 72; refine (KJ.out _ hbw).mono ?_; rintro e w2 ⟨⟨ca, cc, rfl, hci⟩, hb2⟩; have hbw2 := hbw.trans (hb2.mono hbw.size))
    have HCI : Hid (intsAt w2 ca CO) := hci
    clear hci KJ
    go_loopw [19] (fun t wr => ∃ k : Nat, k ≤ n ∧ t = .int .i64 k ∧ Below w2.heap.size w2 wr ∧ ∀ i, i < k → fErr CO (l.getD i default).r = 0) (fun t _ => n - (intOf t).toNat)
    case atStart => exact ⟨0, Nat.zero_le _, rfl, Below.refl _ _, fun i hi => absurd hi (Nat.not_lt_zero i)⟩
    case round =>
      obtain ⟨k, hk, rfl, hnx, hall⟩ := hrel
      have HA : Hid (∀ i, i < k → fErr CO (l.getD i default).r = 0) := hall
      clear hall
      have hbr : Below w.heap.size w wr := hbw2.trans (hnx.mono hbw2.size)
      by_cases hlt : k < n
      · obtain ⟨b, o, ra, rc', e, x1, x2, x3, x4⟩ := HC.out k hlt
        subst e
        have q1 := cell_later hbr x1
        have q2 := cell_later hbr x2
        have KR : Hid (∀ w1, Below wr.heap.size wr w1 → Calls Tryz.prog 80 #[.slice ra (l.getD k default).r.length rc', .slice ca cn cc] w1 fun e w' => e = .returned (.int .i64 (fErr CO (l.getD k default).r)) ∧ Below w1.heap.size w1 w') := fun w1 hb => by
          have := rowRight_any ra ca rc' cc (l.getD k default).r CO w1 x4 (by rw [HCN.out]; omega) (vl.rowAt_below x3 (hbr.trans (hb.mono hbr.size))) (intsAt_below HCI.out (hnx.trans (hb.mono hnx.size)))
          rw [HCN.out] at this
          exact this
        have i1 : (0 : Int) ≤ (k : Int) := by omega
        have i2 : (k : Int) < (n : Int) := by omega
        obtain ⟨E, hE⟩ : ∃ z, fErr CO (l.getD k default).r = z := ⟨_, rfl⟩
        have HE0 : Hid (fErr CO (l.getD k default).r = E) := hE
        rw [hE] at KR
        obtain ⟨kk, hkk⟩ : ∃ z, (l.getD k default).k = z := ⟨_, rfl⟩
        obtain ⟨rl, hrl⟩ : ∃ z, (l.getD k default).r.length = z := ⟨_, rfl⟩
        rw [hkk] at q1
        rw [hrl] at q2 KR
        clear x1 x2 x3 x4 hE hkk hrl
        have hsz := hnx.size
        by_cases hz : E = 0
        · subst hz
          go_wp2_with (go_at_call 80; refine (KR.out _ ((Below.refl _ _).alloc (Nat.le_refl _) _)).mono ?_; rintro e w5 ⟨rfl, hb5⟩; have hbx : Below w2.heap.size w2 w5 := (hnx.alloc hsz _).trans (hb5.mono (by simp; omega)))
          go_roundw
          case rel => exact ⟨k + 1, by omega, by go_num, hbx, fun i hi => by
            rcases Nat.lt_succ_iff_lt_or_eq.1 hi with h | h
            · exact HA.out i h
            · rw [h]; exact HE0.out⟩
          case measure => simp [intOf]; omega
        · have hz' : (E != 0) = true := by simpa using hz
          have HE : Hid (E = R) := by show _ = _; rw [← HR2.out, ch.first_is n HA.out (by rw [HE0.out]; exact hz) hlt, HE0.out]
          go_wp2_with (go_at_call 80; refine (KR.out _ ((Below.refl _ _).alloc (Nat.le_refl _) _)).mono ?_; rintro e w5 ⟨rfl, hb5⟩; have hbx : Below w2.heap.size w2 w5 := (hnx.alloc hsz _).trans (hb5.mono (by simp; omega)))
          go_ret
          exact ⟨ret_int HE.out, hbw2.trans (hbx.mono hbw2.size)⟩
      · have HE : Hid (0 = R) := by show _ = _; rw [← HR2.out, ch.first_zero (fun i hi => HA.out i (by omega))]
        go_wp2
        go_ret
        exact ⟨ret_int HE.out, hbr⟩
  · have h0' : (FE != 0) = true := by simpa using h0
    have HE : Hid (FE = R) := by show _ = _; rw [← HR.out, if_pos h0]
    go_wp2
    go_ret
    exact ⟨ret_int HE.out, hbw⟩
end Go.Proofs.YtbfbgdinhiglaaaGreat.gr
/- What changes make of groups, one behind the other; what do asks for is there. -/
namespace Go.Proofs.YtbfbgdinhiglaaaGreat.gr
open Go.ChangeShapes Go.WideShapes Go.ChangeAt Go.RowKit
open vl pl bt
set_option linter.unusedVariables false
set_option linter.unusedSimpArgs false
/-- changes done one behind the other -/
def doAll (p : Pln) : List Grp → List ch.Chg → Int × List Grp
  | gs, [] => (0, gs)
  | gs, c :: l => if (doG p c.k c.r gs).1 ≠ 0 then ((doG p c.k c.r gs).1, []) else doAll p (doG p c.k c.r gs).2 l
theorem doAll_bad {p : Pln} {gs : List Grp} {c : ch.Chg} {l : List ch.Chg} (h : (doG p c.k c.r gs).1 ≠ 0) : doAll p gs (c :: l) = ((doG p c.k c.r gs).1, []) := by rw [doAll, if_pos h]
theorem doAll_ok {p : Pln} {gs : List Grp} {c : ch.Chg} {l : List ch.Chg} (h : (doG p c.k c.r gs).1 = 0) : doAll p gs (c :: l) = doAll p (doG p c.k c.r gs).2 l := by rw [doAll, if_neg (by simp [h])]
theorem drop_at (l : List ch.Chg) (k : Nat) (h : k < l.length) : l.drop k = l.getD k default :: l.drop (k + 1) := by
  rw [List.drop_eq_getElem_cons h, List.getD_eq_getElem?_getD, List.getElem?_eq_getElem h]; rfl
theorem chgs_rows {p : Pln} {l : List ch.Chg} (h : chgsErr p l = 0) (hw : ch.wfChgs l) : l.length ≤ 4096 ∧ ∀ i, i < l.length → rowF p (l.getD i default).r ∧ 1 ≤ (l.getD i default).k ∧ (l.getD i default).k ≤ 4 := by
  unfold chgsErr at h
  have h1 : ch.formErr l = 0 := by
    by_cases h1 : ch.formErr l = 0
    · exact h1
    · rw [if_pos h1] at h; exact h
  rw [if_neg (by simp [h1])] at h
  unfold ch.formErr at h1
  have h2 : l.length ≤ 4096 := by
    by_cases h2 : 4096 < l.length
    · rw [if_pos h2] at h1; cases h1
    · omega
  rw [if_neg (by omega)] at h1
  refine ⟨h2, fun i hi => ?_⟩
  have e1 := ch.chgErr_zero (ch.first_all h1 i hi)
  have e2 := ch.first_all h i hi
  obtain ⟨k1, k2, k3, _⟩ := e1
  refine ⟨?_, k1, k2⟩
  unfold fErr at e2
  have hl : (l.getD i default).r.length = (cols p).length := by
    by_cases hl : (l.getD i default).r.length = (cols p).length
    · exact hl
    · rw [if_pos hl] at e2; cases e2
  rw [if_neg (fun k => k hl)] at e2
  have ht : typedB (l.getD i default).r (cols p) = true := by
    cases ht : typedB (l.getD i default).r (cols p) with
    | true => rfl
    | false => rw [if_pos ht] at e2; cases e2
  unfold typedB at ht
  simp only [Bool.and_eq_true, decide_eq_true_eq] at ht
  have hk : errR (l.getD i default).r = 0 := by
    unfold keyErr at k3
    split at k3
    · cases k3
    · exact k3
  refine ⟨hl, fun z hz => ⟨vl.all_ok hk z hz, (ch.wfc_at hw i hi).1 z hz⟩, fun j hj => ?_⟩
  have := allB_iff.1 ht.2 j hj
  unfold cellB at this
  simpa using this
theorem row_eight {p : Pln} {r : List Cel} (h0 : planErr p = 0) (h : rowF p r) : r.length ≤ 8 := by
  have hf := few_ok h0
  rw [h.len]
  unfold cols
  rw [List.length_append]
  omega
theorem grp_bags (y : GO) (j : Nat) (h : j < y.bs.length) : y.grp.bags.getD j [] = (y.bs.getD j (.slice none 0 0, [])).2 := by
  unfold GO.grp
  simp [List.getD_eq_getElem?_getD, h]
theorem tal_up {l : List Tal} (h : (l.map (·.1)).Pairwise (fun a b => cmpC a b < 0)) : ∀ i j, i < j → j < l.length → cmpC (l.getD i default).1 (l.getD j default).1 < 0 := fun i j hij hj => by
  have hi : i < l.length := by omega
  have hp := List.pairwise_iff_getElem.1 h i j (by rw [List.length_map]; omega) (by rw [List.length_map]; omega) hij
  simpa [List.getD_eq_getElem?_getD, hi, hj] using hp
theorem fit_of {p : Pln} {r : List Cel} {y : GO} (h0 : planErr p = 0) (hg : p.grouped = true) (hr : rowF p r) (h : grpR p y.grp ∧ 1 ≤ y.grp.n ∧ y.grp.n ≤ 1073741824) : fitG p r y := by
  have hf := group_few h0 hg
  have h8 := row_eight h0 hr
  have hbl : y.bs.length = p.aggs.length := by have := h.1.bl; unfold GO.grp at this; simpa using this
  have hn : y.grp.n = y.n := rfl
  refine ⟨hbl, by omega, by omega, fun j hj hne => (col_right h0 hg hr hj hne).2.2, ⟨by have := h.2; omega, by have := h.2; omega⟩, fun j hj => ?_⟩
  have hj2 : j < p.aggs.length := by omega
  have hb := h.1.bag j hj2
  rw [grp_bags y j hj] at hb
  obtain ⟨b1, b2⟩ := bag_len hb ⟨by have := h.2; omega, h.2.2⟩
  refine ⟨b1, fun t ht => ⟨by have := (b2 t ht).2; omega, by have := (b2 t ht).2; omega⟩, ?_⟩
  unfold bagJ at hb
  split at hb
  · intro a b hab hbl2
    rw [hb] at hbl2
    exact absurd hbl2 (Nat.not_lt_zero b)
  · rename_i hne
    exact find_mono (fun i hi => (hb.fine _ (getD_mm hi)).1) (col_right h0 hg hr hj2 hne).1 (tal_up hb.up)
theorem rows_mono {p : Pln} {gs : List Grp} {key : List Cel} (h : gsR p gs) (hk : ∀ z ∈ key, fineC z) : ∀ i j, i ≤ j → j < gs.length → cmpRows (gs.getD j default).row key < 0 → cmpRows (gs.getD i default).row key < 0 := by
  refine seek_mono (fun i hi => (h.each _ (getD_mm hi)).1.row) hk (fun i j hij hj => ?_)
  have hi : i < gs.length := by omega
  have hp := List.pairwise_iff_getElem.1 h.up i j (by rw [List.length_map]; omega) (by rw [List.length_map]; omega) hij
  simpa [List.getD_eq_getElem?_getD, hi, hj] using hp
/-- all that do asks for -/
theorem do_fits (p : Pln) (x : PA) (W0 w : World) (hbW : Below W0.heap.size W0 w) (hp : planAt W0 p x) (h0 : planErr p = 0) (hg : p.grouped = true) {ad : Option Addr} {cap : Nat} {L : List GO} (h1 : OG w W0.heap.size (.slice ad L.length cap) L) (hR : gsR p (L.map GO.grp))
    (ra : Option Addr) (rc : Nat) (r : List Cel) (hr : vl.rowAt W0 ra r) (hrF : rowF p r) (kd : Int) :
    Calls Tryz.prog 39 #[planV p x, .slice ad L.length cap, .agg #[.int .i64 kd, .slice ra r.length rc]] w fun e w' => doRes (doG p kd r (L.map GO.grp)) W0.heap.size e w' ∧ Below W0.heap.size W0 w' := by
  have hf := group_few h0 hg
  have h8 := row_eight h0 hrF
  have hmany := hR.many
  rw [List.length_map] at hmany
  have hin := group_in h0
  refine do_any p x W0 w hbW hp h1 (by omega) ra rc r hr (fun y hy => fit_of h0 hg hrF (hR.each _ (List.mem_map_of_mem hy))) (by omega) (by omega) (fun j hj hne => (col_right h0 hg hrF hj hne).2.2) (by omega) (fun z hz => by have := hin z hz; rw [hrF.len]; exact this) (fun y hy => ?_) ?_ kd
  · have := row_len (hR.each _ (List.mem_map_of_mem hy)).1
    have e : y.grp.row = y.row := rfl
    rw [e] at this
    omega
  · have := rows_mono hR (key_fine h0 hrF).1
    rw [List.length_map] at this
    exact this
end Go.Proofs.YtbfbgdinhiglaaaGreat.gr
/- How often a cell stands in a bag, how many rows a group has: what one change makes of it. -/
namespace Go.Proofs.YtbfbgdinhiglaaaGreat.gr
open Go.ChangeShapes Go.WideShapes Go.ChangeAt Go.RowKit
open vl pl bt
set_option linter.unusedVariables false
set_option linter.unusedSimpArgs false
theorem bytes_self : ∀ l : List UInt8, Lib.compareBytes l l = 0
  | [] => rfl
  | a :: l => by
    rw [Lib.compareBytes, if_neg (UInt8.lt_irrefl a), if_neg (UInt8.lt_irrefl a)]
    exact bytes_self l
theorem rows_own {a : List Cel} (h : ∀ z ∈ a, fineC z) : cmpRows a a = 0 := by
  rw [← cmpB_rows a a h h]
  exact bytes_self _
theorem cells_own {c : Cel} (h : fineC c) : cmpC c c = 0 := by
  rw [← rows_one]
  exact rows_own (one_fine h)
/-- how often a cell stands in a bag -/
def cntT (l : List Tal) (c : Cel) : Int := (l.map fun t => if t.1 = c then t.2 else 0).sum
theorem cntT_app (l m : List Tal) (c : Cel) : cntT (l ++ m) c = cntT l c + cntT m c := by simp [cntT]
theorem cntT_cons (t : Tal) (l : List Tal) (c : Cel) : cntT (t :: l) c = (if t.1 = c then t.2 else 0) + cntT l c := by simp [cntT]
theorem cnt_add {col n : Int} {l : List Tal} {c : Cel} (h : bagR col n l) (hc : fineC c) (d : Cel) : cntT (addT l c) d = cntT l d + if c = d then 1 else 0 := by
  unfold addT
  by_cases hh : hasT l c = true
  · rw [if_pos hh]
    obtain ⟨h1, h2⟩ := hasT_lt hh
    have e := cells_same (h.fine _ (getD_mm h1)).1 hc h2
    have hsp := congrArg (fun z => cntT z d) (split_at l _ default h1)
    rw [set_split h1]
    simp only [cntT_app, cntT_cons, e] at hsp ⊢
    rw [hsp]
    split <;> omega
  · rw [if_neg hh]
    have hsp := congrArg (fun z => cntT z d) (List.take_append_drop (idxT l c) l)
    simp only [cntT_app, cntT_cons] at hsp ⊢
    rw [← hsp]
    split <;> omega
theorem cnt_sub {col n : Int} {l : List Tal} {c : Cel} (h : bagR col n l) (hc : fineC c) (hh : hasT l c = true) (d : Cel) : cntT (subT l c) d = cntT l d - if c = d then 1 else 0 := by
  obtain ⟨h1, h2⟩ := hasT_lt hh
  have e := cells_same (h.fine _ (getD_mm h1)).1 hc h2
  have hsp := congrArg (fun z => cntT z d) (split_at l _ default h1)
  unfold subT
  by_cases h3 : (l.getD (idxT l c) default).2 - 1 = 0
  · rw [if_pos h3]
    simp only [cntT_app, cntT_cons, e] at hsp ⊢
    rw [hsp]
    split <;> omega
  · rw [if_neg h3, set_split h1]
    simp only [cntT_app, cntT_cons, e] at hsp ⊢
    rw [hsp]
    split <;> omega
theorem zero_sum (l : List Tal) : (l.map fun _ => (0 : Int)).sum = 0 := by
  induction l with
  | nil => rfl
  | cons t l ih => rw [List.map_cons, List.sum_cons, ih]; rfl
theorem has_of : ∀ {l : List Tal} {c : Cel}, (∀ t ∈ l, fineC t.1) → (l.map (·.1)).Pairwise (fun a b => cmpC a b < 0) → fineC c → cntT l c ≠ 0 → hasT l c = true
  | [], c, _, _, _, h => absurd (by simp [cntT]) h
  | u :: l, c, hf, hup, hc, h => by
    by_cases e : u.1 = c
    · have hz := cells_own hc
      have hi : idxT (u :: l) c = 0 := by
        unfold idxT
        rw [List.takeWhile_cons, e, hz]
        simp
      unfold hasT
      rw [hi]
      simp [e, hz]
    · rw [cntT_cons, if_neg e, Int.zero_add] at h
      rw [List.map_cons, List.pairwise_cons] at hup
      have ih := has_of (fun t ht => hf t (List.mem_cons_of_mem _ ht)) hup.2 hc h
      have hlt : cmpC u.1 c < 0 := by
        have : ∃ t ∈ l, t.1 = c := by
          refine Classical.byContradiction fun hn => h ?_
          unfold cntT
          have : (l.map fun t => if t.1 = c then t.2 else 0) = l.map fun _ => (0 : Int) := List.map_congr_left fun t ht => if_neg fun e => hn ⟨t, ht, e⟩
          rw [this]
          exact zero_sum l
        obtain ⟨t, ht, rfl⟩ := this
        exact hup.1 _ (List.mem_map.2 ⟨t, ht, rfl⟩)
      have hi : idxT (u :: l) c = idxT l c + 1 := by
        unfold idxT
        rw [List.takeWhile_cons, decide_eq_true hlt]
        simp
      unfold hasT at ih ⊢
      rw [hi]
      simpa using ih
theorem bag_none {col : Int} {l : List Tal} (h : bagR col 0 l) : l = [] := by
  cases l with
  | nil => rfl
  | cons t l =>
    exfalso
    have hs := h.sum
    have h1 := (h.fine t (List.mem_cons_self ..)).2.2
    have h2 : 0 ≤ (l.map (·.2)).sum := by
      have hf : ∀ x ∈ l, 1 ≤ x.2 := fun x hx => (h.fine x (List.mem_cons_of_mem _ hx)).2.2
      clear h hs
      induction l with
      | nil => simp
      | cons x l ih =>
        have := hf x (List.mem_cons_self ..)
        have := ih (fun y hy => hf y (List.mem_cons_of_mem _ hy))
        simp only [List.map_cons, List.sum_cons]
        omega
    simp only [List.map_cons, List.sum_cons] at hs
    omega
/-- a number of groups, added up -/
def sumG (F : Grp → Int) (gs : List Grp) : Int := (gs.map F).sum
theorem sumG_app (F : Grp → Int) (a b : List Grp) : sumG F (a ++ b) = sumG F a + sumG F b := by simp [sumG]
theorem sumG_cons (F : Grp → Int) (a : Grp) (b : List Grp) : sumG F (a :: b) = F a + sumG F b := by simp [sumG]
theorem sum_set (F : Grp → Int) {gs : List Grp} {i : Nat} (hi : i < gs.length) (g' : Grp) : sumG F (gs.take i ++ g' :: gs.drop (i + 1)) = sumG F gs - F (gs.getD i default) + F g' := by
  have h := congrArg (sumG F) (split_gs gs i hi)
  simp only [sumG_app, sumG_cons] at h ⊢
  omega
theorem sum_cut (F : Grp → Int) {gs : List Grp} {i : Nat} (hi : i < gs.length) : sumG F (gs.take i ++ gs.drop (i + 1)) = sumG F gs - F (gs.getD i default) := by
  have h := congrArg (sumG F) (split_gs gs i hi)
  simp only [sumG_app, sumG_cons] at h ⊢
  omega
theorem sum_ins (F : Grp → Int) (gs : List Grp) (i : Nat) (g' : Grp) : sumG F (gs.take i ++ g' :: gs.drop i) = sumG F gs + F g' := by
  have h := congrArg (sumG F) (List.take_append_drop i gs)
  simp only [sumG_app, sumG_cons] at h ⊢
  omega
/-- how many rows a key has -/
def cntG (gs : List Grp) (k : List Cel) : Int := sumG (fun g => if g.row = k then g.n else 0) gs
/-- how often a cell stands in a key's bag -/
def talG (gs : List Grp) (j : Nat) (k : List Cel) (c : Cel) : Int := sumG (fun g => if g.row = k then cntT (g.bags.getD j []) c else 0) gs
theorem more_go {k : Int} (h : k = 2 ∨ k = 3) : ch.moreOf k = -1 := by rcases h with rfl | rfl <;> rfl
theorem more_come {k : Int} (h1 : 1 ≤ k) (h4 : k ≤ 4) (h : ¬(k = 2 ∨ k = 3)) : ch.moreOf k = 1 := by
  have : k = 1 ∨ k = 4 := by omega
  rcases this with rfl | rfl <;> rfl
/-- any number that a change moves by the same in each of its ways -/
theorem do_sum {p : Pln} {r : List Cel} {gs : List Grp} {k : Int} (F : Grp → Int) (m : Int) (h0 : planErr p = 0) (hr : rowF p r) (h : gsR p gs) (hd : (doG p k r gs).1 = 0)
    (hgo : (k = 2 ∨ k = 3) → ∀ g, grpR p g → g.row = pickR r p.group → mayG p r g = true → F (goG p r g) = F g + m) (hend : ∀ g, grpR p g → mayG p r g = true → g.n - 1 = 0 → F (goG p r g) = 0)
    (hcome : ¬(k = 2 ∨ k = 3) → ∀ g, grpR p g → g.row = pickR r p.group → F (comeG p r g) = F g + m) (hnew : F (newG p (pickR r p.group)) = 0) : sumG F (doG p k r gs).2 = sumG F gs + m := by
  obtain ⟨kf, kt⟩ := key_fine h0 hr
  unfold doG at hd ⊢
  by_cases hk : k = 2 ∨ k = 3
  · rw [if_pos hk] at hd ⊢
    by_cases hh : hasG gs (pickR r p.group) = false
    · rw [if_pos hh] at hd; cases hd
    · rw [if_neg hh] at hd ⊢
      have hh' : hasG gs (pickR r p.group) = true := by simpa using hh
      obtain ⟨hi, hc⟩ := hasG_lt hh'
      obtain ⟨e1, e2, e3⟩ := h.each _ (getD_mm hi)
      have er := rows_same e1.row kf hc
      by_cases hm : mayG p r (gs.getD (idxG gs (pickR r p.group)) default) = false
      · rw [if_pos hm] at hd; cases hd
      · rw [if_neg hm] at hd ⊢
        have hm' : mayG p r (gs.getD (idxG gs (pickR r p.group)) default) = true := by simpa using hm
        have hg := hgo hk _ e1 er hm'
        by_cases hn : (gs.getD (idxG gs (pickR r p.group)) default).n - 1 = 0
        · rw [if_pos hn]
          dsimp only
          rw [sum_cut F hi]
          have := hend _ e1 hm' hn
          omega
        · rw [if_neg hn]
          dsimp only
          rw [sum_set F hi]
          omega
  · rw [if_neg hk] at hd ⊢
    by_cases hh : hasG gs (pickR r p.group) = true
    · rw [if_pos hh] at hd ⊢
      obtain ⟨hi, hc⟩ := hasG_lt hh
      obtain ⟨e1, e2, e3⟩ := h.each _ (getD_mm hi)
      have er := rows_same e1.row kf hc
      by_cases hn : (gs.getD (idxG gs (pickR r p.group)) default).n + 1 > 1073741824 ∨ 4096 < gs.length
      · rw [if_pos hn] at hd; cases hd
      · rw [if_neg hn]
        dsimp only
        rw [sum_set F hi, hcome hk _ e1 er]
        omega
    · rw [if_neg hh] at hd ⊢
      by_cases hn : 4096 < gs.length + 1
      · rw [if_pos hn] at hd; cases hd
      · rw [if_neg hn]
        dsimp only
        rw [sum_ins F, hcome hk _ (new_right h0 hr) rfl, hnew]
        omega
theorem do_cnt {p : Pln} {r : List Cel} {gs : List Grp} {k : Int} (h0 : planErr p = 0) (hr : rowF p r) (h1 : 1 ≤ k) (h4 : k ≤ 4) (h : gsR p gs) (hd : (doG p k r gs).1 = 0) (key : List Cel) :
    cntG (doG p k r gs).2 key = cntG gs key + if pickR r p.group = key then ch.moreOf k else 0 := by
  unfold cntG
  refine do_sum _ _ h0 hr h hd (fun hk g hg e hm => ?_) (fun g hg hm hn => ?_) (fun hk g hg e => ?_) ?_
  · rw [more_go hk]
    show (if g.row = key then g.n - 1 else 0) = _
    rw [e]
    split <;> omega
  · show (if g.row = key then g.n - 1 else 0) = 0
    rw [hn]; simp
  · rw [more_come h1 h4 hk]
    show (if g.row = key then g.n + 1 else 0) = _
    rw [e]
    split <;> omega
  · show (if _ = key then (0 : Int) else 0) = 0
    simp
theorem come_at {p : Pln} {r : List Cel} {g : Grp} {j : Nat} (hg : grpR p g) (hj : j < p.aggs.length) : (comeG p r g).bags.getD j [] = comeB p.aggs r j (g.bags.getD j []) := bags_at (f := fun j => comeB p.aggs r j) (by rw [hg.bl]; exact hj)
theorem go_at {p : Pln} {r : List Cel} {g : Grp} {j : Nat} (hg : grpR p g) (hj : j < p.aggs.length) : (goG p r g).bags.getD j [] = goB p.aggs r j (g.bags.getD j []) := bags_at (f := fun j => goB p.aggs r j) (by rw [hg.bl]; exact hj)
theorem may_at {p : Pln} {r : List Cel} {g : Grp} {j : Nat} (hg : grpR p g) (hm : mayG p r g = true) (hj : j < p.aggs.length) (h1 : (p.aggs.getD j (0, 0)).1 ≠ 1) : hasT (g.bags.getD j []) (r.getD (p.aggs.getD j (0, 0)).2.toNat default) = true := by
  unfold mayG at hm
  have hmj := allB_iff.1 hm j (by rw [hg.bl]; exact hj)
  rw [decide_eq_false h1, Bool.false_or] at hmj
  exact hmj
theorem bag_at {p : Pln} {g : Grp} {j : Nat} (hg : grpR p g) (hj : j < p.aggs.length) (h1 : (p.aggs.getD j (0, 0)).1 ≠ 1) : bagR ((cols p).getD (p.aggs.getD j (0, 0)).2.toNat 0) g.n (g.bags.getD j []) := by
  have := hg.bag j hj
  unfold bagJ at this
  rw [if_neg h1] at this
  exact this
theorem do_tal {p : Pln} {r : List Cel} {gs : List Grp} {k : Int} (h0 : planErr p = 0) (hgr : p.grouped = true) (hr : rowF p r) (h1 : 1 ≤ k) (h4 : k ≤ 4) (h : gsR p gs) (hd : (doG p k r gs).1 = 0) (j : Nat) (hj : j < p.aggs.length) (hn1 : (p.aggs.getD j (0, 0)).1 ≠ 1) (key : List Cel) (c : Cel) :
    talG (doG p k r gs).2 j key c = talG gs j key c + if pickR r p.group = key ∧ r.getD (p.aggs.getD j (0, 0)).2.toNat default = c then ch.moreOf k else 0 := by
  have hc := (col_right h0 hgr hr hj hn1).1
  unfold talG
  refine do_sum _ _ h0 hr h hd (fun hk g hg e hm => ?_) (fun g hg hm hn => ?_) (fun hk g hg e => ?_) ?_
  · rw [more_go hk]
    show (if g.row = key then cntT ((goG p r g).bags.getD j []) c else 0) = _
    rw [e, go_at hg hj, goB, if_neg hn1]
    have hs := cnt_sub (bag_at hg hj hn1) hc (may_at hg hm hj hn1) c
    by_cases e1 : pickR r p.group = key
    · rw [if_pos e1, if_pos e1, hs]
      by_cases e2 : r.getD (p.aggs.getD j (0, 0)).2.toNat default = c
      · rw [if_pos e2, if_pos ⟨e1, e2⟩]; omega
      · rw [if_neg e2, if_neg (fun k => e2 k.2)]; omega
    · rw [if_neg e1, if_neg e1, if_neg (fun k => e1 k.1)]; omega
  · show (if g.row = key then cntT ((goG p r g).bags.getD j []) c else 0) = 0
    rw [go_at hg hj, goB, if_neg hn1]
    have hb := bag_sub (bag_at hg hj hn1) (may_at hg hm hj hn1)
    rw [hn] at hb
    rw [bag_none hb]
    simp [cntT]
  · rw [more_come h1 h4 hk]
    show (if g.row = key then cntT ((comeG p r g).bags.getD j []) c else 0) = _
    rw [e, come_at hg hj, comeB, if_neg hn1]
    have hs := cnt_add (bag_at hg hj hn1) hc c
    by_cases e1 : pickR r p.group = key
    · rw [if_pos e1, if_pos e1, hs]
      by_cases e2 : r.getD (p.aggs.getD j (0, 0)).2.toNat default = c
      · rw [if_pos e2, if_pos ⟨e1, e2⟩]
      · rw [if_neg e2, if_neg (fun k => e2 k.2)]
    · rw [if_neg e1, if_neg e1, if_neg (fun k => e1 k.1)]; omega
  · show (if _ = key then cntT ((newG p (pickR r p.group)).bags.getD j []) c else 0) = 0
    have e : (newG p (pickR r p.group)).bags.getD j [] = [] := by simp [newG, List.getD_eq_getElem?_getD, List.getElem?_replicate, hj]
    rw [e]
    simp [cntT]
end Go.Proofs.YtbfbgdinhiglaaaGreat.gr
