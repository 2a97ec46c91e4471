import Derived.Test.YtbfbgdinhiglaaaGreatS17
import Derived.Test.YtbfbgdinhiglaaaGreatS21
import Derived.Test.YtbfbgdinhiglaaaGreatS15
import Derived.Test.YtbfbgdinhiglaaaGreatS16
import Derived.Test.YtbfbgdinhiglaaaGreatMgChgB
import Derived.Test.YtbfbgdinhiglaaaGreatS9
/- Lists that rise; bags that a cell comes to, or goes from, stay right. -/
namespace Go.Proofs.YtbfbgdinhiglaaaGreat.gr
open Go.ChangeShapes Go.WideShapes Go.ChangeAt Go.RowKit
open vl pl bt
set_option linter.unusedVariables false
set_option linter.unusedSimpArgs false
theorem cmpB_swap : ∀ {a b : List UInt8}, 0 < Lib.compareBytes a b → Lib.compareBytes b a < 0
  | [], [], h => by simp [Lib.compareBytes] at h
  | [], b :: y, h => by simp [Lib.compareBytes] at h
  | a :: x, [], _ => by simp [Lib.compareBytes]
  | a :: x, b :: y, h => by
    rw [Lib.compareBytes] at h ⊢
    by_cases h1 : a < b
    · rw [if_pos h1] at h; omega
    · rw [if_neg h1] at h
      by_cases h2 : b < a
      · rw [if_pos h2]; omega
      · rw [if_neg h2] at h ⊢
        rw [if_neg h1]
        exact cmpB_swap h
theorem rows_swap {a b : List Cel} (ha : ∀ z ∈ a, fineC z) (hb : ∀ z ∈ b, fineC z) (h : 0 < cmpRows a b) : cmpRows b a < 0 := by
  rw [← cmpB_rows a b ha hb] at h
  rw [← cmpB_rows b a hb ha]
  exact cmpB_swap h
theorem rows_same {a b : List Cel} (ha : ∀ z ∈ a, fineC z) (hb : ∀ z ∈ b, fineC z) (h : cmpRows a b = 0) : a = b :=
  encR_inj ha hb (cmpB_zero.1 (by rw [cmpB_rows a b ha hb, h]))
theorem one_fine {c : Cel} (h : fineC c) : ∀ z ∈ [c], fineC z := fun z hz => by rw [List.mem_singleton.1 hz]; exact h
theorem cells_swap {a b : Cel} (ha : fineC a) (hb : fineC b) (h : 0 < cmpC a b) : cmpC b a < 0 := by
  rw [← rows_one] at h ⊢
  exact rows_swap (one_fine ha) (one_fine hb) h
theorem cells_same {a b : Cel} (ha : fineC a) (hb : fineC b) (h : cmpC a b = 0) : a = b := by
  rw [← rows_one] at h
  have := rows_same (one_fine ha) (one_fine hb) h
  simpa using this
/-- one more, in a list that rises -/
theorem ins_up {κ : Type} {F : κ → Prop} {cmp : κ → κ → Int} (tr : ∀ a b c, F a → F b → F c → cmp a b < 0 → cmp b c < 0 → cmp a c < 0) (sw : ∀ a b, F a → F b → 0 < cmp a b → cmp b a < 0) {c : κ} (hc : F c) : ∀ {l : List κ}, (∀ x ∈ l, F x) → l.Pairwise (fun a b => cmp a b < 0) → (∀ x, (l.dropWhile fun x => decide (cmp x c < 0)).head? = some x → cmp x c ≠ 0) → (l.takeWhile (fun x => decide (cmp x c < 0)) ++ c :: l.dropWhile (fun x => decide (cmp x c < 0))).Pairwise (fun a b => cmp a b < 0)
  | [], _, _, _ => by simp
  | a :: l, hF, hp, hno => by
    have hFa : F a := hF a (List.mem_cons_self ..)
    have hFl : ∀ x ∈ l, F x := fun x hx => hF x (List.mem_cons_of_mem _ hx)
    obtain ⟨hp1, hp2⟩ := List.pairwise_cons.1 hp
    by_cases h : cmp a c < 0
    · have hd : decide (cmp a c < 0) = true := decide_eq_true h
      have e1 : (a :: l).takeWhile (fun x => decide (cmp x c < 0)) = a :: l.takeWhile (fun x => decide (cmp x c < 0)) := List.takeWhile_cons_of_pos (p := fun x => decide (cmp x c < 0)) hd
      have e2 : (a :: l).dropWhile (fun x => decide (cmp x c < 0)) = l.dropWhile (fun x => decide (cmp x c < 0)) := List.dropWhile_cons_of_pos (p := fun x => decide (cmp x c < 0)) hd
      rw [e2] at hno
      rw [e1, e2, List.cons_append]
      have ih := ins_up tr sw hc hFl hp2 hno
      refine List.pairwise_cons.2 ⟨fun y hy => ?_, ih⟩
      rcases List.mem_append.1 hy with hy | hy
      · exact hp1 y ((List.takeWhile_sublist _).subset hy)
      · rcases List.mem_cons.1 hy with rfl | hy
        · exact h
        · exact hp1 y ((List.dropWhile_sublist _).subset hy)
    · have hd : ¬ decide (cmp a c < 0) = true := by simpa using h
      have e1 : (a :: l).takeWhile (fun x => decide (cmp x c < 0)) = [] := List.takeWhile_cons_of_neg (p := fun x => decide (cmp x c < 0)) hd
      have e2 : (a :: l).dropWhile (fun x => decide (cmp x c < 0)) = a :: l := List.dropWhile_cons_of_neg (p := fun x => decide (cmp x c < 0)) hd
      rw [e2] at hno
      rw [e1, e2, List.nil_append]
      have hne := hno a rfl
      have hca := sw a c hFa hc (by omega)
      refine List.pairwise_cons.2 ⟨fun y hy => ?_, hp⟩
      rcases List.mem_cons.1 hy with rfl | hy
      · exact hca
      · exact tr c a y hc hFa (hFl y hy) hca (hp1 y hy)
theorem take_while {α : Type} (f : α → Bool) (l : List α) : l.take (l.takeWhile f).length = l.takeWhile f ∧ l.drop (l.takeWhile f).length = l.dropWhile f := by
  have e := List.takeWhile_append_dropWhile (p := f) (l := l)
  refine ⟨?_, ?_⟩
  · conv => lhs; rw [← e]
    rw [List.takeWhile_append_dropWhile]
    conv => lhs; arg 2; rw [← e]
    exact List.take_left ..
  · conv => lhs; rw [← e]
    rw [List.takeWhile_append_dropWhile]
    conv => lhs; arg 2; rw [← e]
    exact List.drop_left ..
theorem while_map {α κ : Type} (g : α → κ) (f : κ → Bool) : ∀ (l : List α), (l.takeWhile fun x => f (g x)).map g = (l.map g).takeWhile f ∧ (l.dropWhile fun x => f (g x)).map g = (l.map g).dropWhile f
  | [] => ⟨rfl, rfl⟩
  | a :: l => by
    have ih := while_map g f l
    by_cases h : f (g a) = true
    · simp [List.takeWhile_cons, List.dropWhile_cons, h, ih.1, ih.2]
    · simp [List.takeWhile_cons, List.dropWhile_cons, h]
/-- a right bag -/
structure bagR (col n : Int) (l : List Tal) : Prop where
  fine : ∀ t ∈ l, fineC t.1 ∧ (t.1.k = 0 ∨ t.1.k = col) ∧ 1 ≤ t.2
  up : (l.map (·.1)).Pairwise (fun a b => cmpC a b < 0)
  sum : (l.map (·.2)).sum = n
theorem tals_right {col : Int} : ∀ (l : List Tal) (r : Int) (q : Option Cel), talsB col r q l = true → (∀ t ∈ l, t.1.wf) → bagR col r l ∧ ∀ c, q = some c → fineC c → ∀ t ∈ l, cmpC c t.1 < 0
  | [], r, q, h, _ => ⟨⟨fun t ht => absurd ht List.not_mem_nil, List.Pairwise.nil, by simp [talsB] at h; simp [h]⟩, fun c _ _ t ht => absurd ht List.not_mem_nil⟩
  | u :: l, r, q, h, hw => by
    rw [talsB] at h
    obtain ⟨h1, h2⟩ := (Bool.and_eq_true _ _).mp h
    obtain ⟨ih1, ih2⟩ := tals_right l _ _ h2 (fun t ht => hw t (List.mem_cons_of_mem _ ht))
    unfold talB valB at h1
    simp only [Bool.and_eq_true, decide_eq_true_eq, Bool.or_eq_true] at h1
    obtain ⟨⟨⟨⟨k1, k2⟩, k3⟩, k4⟩, k5⟩ := h1
    have hu : fineC u.1 := ⟨k1, hw u (List.mem_cons_self ..)⟩
    have hul := ih2 u.1 rfl hu
    refine ⟨⟨fun t ht => ?_, ?_, ?_⟩, fun c hc hcf t ht => ?_⟩
    · rcases List.mem_cons.1 ht with rfl | ht
      · exact ⟨hu, k2, k3⟩
      · exact ih1.fine t ht
    · rw [List.map_cons]
      refine List.pairwise_cons.2 ⟨fun y hy => ?_, ih1.up⟩
      obtain ⟨t, ht, rfl⟩ := List.mem_map.1 hy
      exact hul t ht
    · rw [List.map_cons, List.sum_cons, ih1.sum]; omega
    · subst hc
      have hcu : cmpC c u.1 < 0 := by simpa using k5
      rcases List.mem_cons.1 ht with rfl | ht
      · exact hcu
      · exact cells_more hcf hu (ih1.fine t ht).1 hcu (hul t ht)
theorem sum_least {l : List Tal} (h : ∀ t ∈ l, (1 : Int) ≤ t.2) : (l.length : Int) ≤ (l.map (·.2)).sum := by
  induction l with
  | nil => simp
  | cons a l ih =>
    have := ih (fun t ht => h t (List.mem_cons_of_mem _ ht))
    have := h a (List.mem_cons_self ..)
    rw [List.map_cons, List.sum_cons, List.length_cons]; omega
theorem sum_each {l : List Tal} (h : ∀ t ∈ l, (1 : Int) ≤ t.2) : ∀ t ∈ l, t.2 ≤ (l.map (·.2)).sum := by
  induction l with
  | nil => intro t ht; cases ht
  | cons a l ih =>
    intro t ht
    have h1 := sum_least (fun t ht => h t (List.mem_cons_of_mem _ ht))
    rw [List.map_cons, List.sum_cons]
    rcases List.mem_cons.1 ht with rfl | ht
    · omega
    · have := ih (fun t ht => h t (List.mem_cons_of_mem _ ht)) t ht
      have := h a (List.mem_cons_self ..)
      omega
theorem right_tals {col : Int} : ∀ (l : List Tal) (r : Int) (q : Option Cel), bagR col r l → (∀ c, q = some c → ∀ t ∈ l, cmpC c t.1 < 0) → talsB col r q l = true
  | [], r, q, h, _ => by have := h.sum; simp at this; simp [talsB, ← this]
  | u :: l, r, q, h, hq => by
    have hs := h.sum
    rw [List.map_cons, List.sum_cons] at hs
    have hup := h.up
    rw [List.map_cons] at hup
    obtain ⟨hu1, hu2⟩ := List.pairwise_cons.1 hup
    have hb : bagR col (r - u.2) l := ⟨fun t ht => h.fine t (List.mem_cons_of_mem _ ht), hu2, by omega⟩
    have ih := right_tals l (r - u.2) (some u.1) hb (fun c hc t ht => by cases hc; exact hu1 _ (List.mem_map.2 ⟨t, ht, rfl⟩))
    have hl := sum_least (fun t ht => (hb.fine t ht).2.2)
    have hf := h.fine u (List.mem_cons_self ..)
    rw [talsB, ih, Bool.and_true]
    unfold talB valB
    simp only [Bool.and_eq_true, decide_eq_true_eq, Bool.or_eq_true]
    refine ⟨⟨⟨⟨hf.1.1, hf.2.1⟩, hf.2.2⟩, by omega⟩, ?_⟩
    cases q with
    | none => rfl
    | some c => simpa using hq c rfl u (List.mem_cons_self ..)
theorem getD_mm {α : Type} [Inhabited α] {l : List α} {i : Nat} (h : i < l.length) : l.getD i default ∈ l := by
  rw [List.getD_eq_getElem?_getD, List.getElem?_eq_getElem h]; exact List.getElem_mem h
theorem set_split {l : List Tal} {i : Nat} (h : i < l.length) (x : Tal) : l.set i x = l.take i ++ x :: l.drop (i + 1) := by
  rw [List.set_eq_take_append_cons_drop, if_pos h]
theorem hasT_lt {l : List Tal} {c : Cel} (h : hasT l c = true) : idxT l c < l.length ∧ cmpC (l.getD (idxT l c) default).1 c = 0 := by
  unfold hasT at h
  simpa using h
/-- the same cells, one number changed -/
theorem bag_set {col n m : Int} {l : List Tal} {i : Nat} (h : bagR col n l) (hi : i < l.length) (hm : 1 ≤ m) : bagR col (n - (l.getD i default).2 + m) (l.set i ((l.getD i default).1, m)) := by
  have hsp := split_at l i default hi
  obtain ⟨t, ht⟩ : ∃ t, l.getD i default = t := ⟨_, rfl⟩
  have hin : t ∈ l := by rw [← ht]; exact getD_mm hi
  rw [set_split hi, ht]
  rw [ht] at hsp
  obtain ⟨A, hA⟩ : ∃ A, l.take i = A := ⟨_, rfl⟩
  obtain ⟨B, hB⟩ : ∃ B, l.drop (i + 1) = B := ⟨_, rfl⟩
  rw [hA, hB] at hsp ⊢
  have hup := h.up
  have hsum := h.sum
  have hfine := h.fine
  rw [hsp] at hup hsum hfine
  refine ⟨fun x hx => ?_, by simpa using hup, ?_⟩
  · rcases List.mem_append.1 hx with hx | hx
    · exact hfine x (List.mem_append.2 (.inl hx))
    · rcases List.mem_cons.1 hx with rfl | hx
      · have := hfine t (List.mem_append.2 (.inr (List.mem_cons_self ..)))
        exact ⟨this.1, this.2.1, hm⟩
      · exact hfine x (List.mem_append.2 (.inr (List.mem_cons_of_mem _ hx)))
  · simp only [List.map_append, List.map_cons, List.sum_append, List.sum_cons] at hsum ⊢
    omega
theorem bag_cut {col n : Int} {l : List Tal} {i : Nat} (h : bagR col n l) (hi : i < l.length) : bagR col (n - (l.getD i default).2) (l.take i ++ l.drop (i + 1)) := by
  have hsp := split_at l i default hi
  obtain ⟨t, ht⟩ : ∃ t, l.getD i default = t := ⟨_, rfl⟩
  rw [ht] at hsp ⊢
  obtain ⟨A, hA⟩ : ∃ A, l.take i = A := ⟨_, rfl⟩
  obtain ⟨B, hB⟩ : ∃ B, l.drop (i + 1) = B := ⟨_, rfl⟩
  rw [hA, hB] at hsp ⊢
  have hup := h.up
  have hsum := h.sum
  have hfine := h.fine
  rw [hsp] at hup hsum hfine
  refine ⟨fun x hx => ?_, ?_, ?_⟩
  · rcases List.mem_append.1 hx with hx | hx
    · exact hfine x (List.mem_append.2 (.inl hx))
    · exact hfine x (List.mem_append.2 (.inr (List.mem_cons_of_mem _ hx)))
  · rw [List.map_append, List.map_cons] at hup
    rw [List.map_append]
    exact hup.sublist (List.Sublist.append (List.Sublist.refl _) (List.sublist_cons_self ..))
  · simp only [List.map_append, List.map_cons, List.sum_append, List.sum_cons] at hsum ⊢
    omega
theorem bag_add {col n : Int} {l : List Tal} {c : Cel} (h : bagR col n l) (hc : fineC c) (hk : c.k = 0 ∨ c.k = col) : bagR col (n + 1) (addT l c) := by
  unfold addT
  by_cases hh : hasT l c = true
  · rw [if_pos hh]
    obtain ⟨h1, h2⟩ := hasT_lt hh
    have hf := h.fine _ (getD_mm h1)
    have := bag_set (m := (l.getD (idxT l c) default).2 + 1) h h1 (by have := hf.2.2; omega)
    rw [show n - (l.getD (idxT l c) default).2 + ((l.getD (idxT l c) default).2 + 1) = n + 1 by omega] at this
    exact this
  · rw [if_neg hh]
    have hup : (((l.take (idxT l c) ++ (c, (1 : Int)) :: l.drop (idxT l c))).map (·.1)).Pairwise (fun a b => cmpC a b < 0) := by
      have e := take_while (fun t : Tal => decide (cmpC t.1 c < 0)) l
      have em := while_map (fun t : Tal => t.1) (fun z => decide (cmpC z c < 0)) l
      unfold idxT
      rw [e.1, e.2, List.map_append, List.map_cons, em.1, em.2]
      refine ins_up (F := fineC) (cmp := cmpC) (fun a b d ha hb hd => cells_more ha hb hd) (fun a b ha hb => cells_swap ha hb) hc (fun x hx => ?_) h.up (fun x hx => ?_)
      · obtain ⟨t, ht, rfl⟩ := List.mem_map.1 hx
        exact (h.fine t ht).1
      · rw [← em.2, ← e.2, List.head?_map] at hx
        have hlt : idxT l c < l.length := by
          rcases Nat.lt_or_ge (idxT l c) l.length with h1 | h1
          · exact h1
          · have : l.drop (l.takeWhile fun t : Tal => decide (cmpC t.1 c < 0)).length = [] := List.drop_of_length_le h1
            simp [this] at hx
        have h3 : (l.drop (l.takeWhile fun t : Tal => decide (cmpC t.1 c < 0)).length).head? = some (l.getD (idxT l c) default) := by
          rw [List.head?_drop, List.getD_eq_getElem?_getD]
          show l[idxT l c]? = _
          rw [List.getElem?_eq_getElem hlt]; rfl
        rw [h3] at hx
        have hx2 : (l.getD (idxT l c) default).1 = x := by simpa using hx
        rw [← hx2]
        intro h0
        apply hh
        unfold hasT
        rw [decide_eq_true hlt, decide_eq_true h0]; rfl
    refine ⟨fun x hx => ?_, hup, ?_⟩
    · rcases List.mem_append.1 hx with hx | hx
      · exact h.fine x (List.mem_of_mem_take hx)
      · rcases List.mem_cons.1 hx with rfl | hx
        · exact ⟨hc, hk, Int.le_refl _⟩
        · exact h.fine x (List.mem_of_mem_drop hx)
    · have hs := h.sum
      rw [← List.take_append_drop (idxT l c) l] at hs
      simp only [List.map_append, List.map_cons, List.sum_append, List.sum_cons] at hs ⊢
      omega
theorem bag_sub {col n : Int} {l : List Tal} {c : Cel} (h : bagR col n l) (hh : hasT l c = true) : bagR col (n - 1) (subT l c) := by
  obtain ⟨h1, h2⟩ := hasT_lt hh
  have hf := (h.fine _ (getD_mm h1)).2.2
  unfold subT
  by_cases h0 : (l.getD (idxT l c) default).2 - 1 = 0
  · rw [if_pos h0]
    have := bag_cut h h1
    rw [show n - (l.getD (idxT l c) default).2 = n - 1 by omega] at this
    exact this
  · rw [if_neg h0]
    have := bag_set (m := (l.getD (idxT l c) default).2 - 1) h h1 (by omega)
    rw [show n - (l.getD (idxT l c) default).2 + ((l.getD (idxT l c) default).2 - 1) = n - 1 by omega] at this
    exact this
end Go.Proofs.YtbfbgdinhiglaaaGreat.gr
/- One group of one's own, with two bags, the second of which grows. -/
namespace Go.Proofs.YtbfbgdinhiglaaaGreat.gr
open Go.ChangeShapes Go.WideShapes Go.ChangeAt Go.RowKit
open vl pl bt
set_option linter.unusedVariables false
set_option linter.unusedSimpArgs false
/-- of different types, different blocks -/
theorem own_apart {w : World} {base base' : Nat} {e e' : TypeId} {s s' : Nat} {v v' : Value} {n n' : Nat} {xs xs' : List Value} (h : w.ownsRow base e s v n xs) (h' : w.ownsRow base' e' s' v' n' xs') (he : e ≠ e') {g : Nat} (hg : v.ownBlock = some g) : v'.ownBlock ≠ some g := fun hg' => by
  rcases h.2 with ⟨rfl, _⟩ | ⟨b, cap, cur, rfl, _, hb, _⟩
  · cases hg
  · rcases h'.2 with ⟨rfl, _⟩ | ⟨b', cap', cur', rfl, _, hb', _⟩
    · cases hg'
    · cases hg
      cases hg'
      rw [hb] at hb'
      injection hb' with e1
      injection e1 with _ e2
      exact he e2
end Go.Proofs.YtbfbgdinhiglaaaGreat.gr
