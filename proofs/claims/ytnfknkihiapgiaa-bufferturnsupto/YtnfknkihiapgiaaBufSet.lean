/- What Put, Drop and Pack make of a right buffer: right buffers, of these entries. Entries of unlike places that rise are one list. -/
import Derived.Test.YtnfknkihiapgiaaBufOwnAt
namespace Go.Proofs.Ytnfknkihiapgiaa.bf
open Go.ChangeShapes Go.WideShapes Go.ChangeAt Go.RowKit
open vl
set_option linter.unusedVariables false
set_option linter.unusedSimpArgs false
/-- places rise -/
def Rise (l : List Ent) : Prop := l.Pairwise ltP
theorem getD_at {α : Type} {l : List α} {d : α} {i : Nat} (h : i < l.length) : l.getD i d = l[i] := by
  rw [List.getD_eq_getElem?_getD, List.getElem?_eq_getElem h]; rfl
theorem nodup_ne {l : List Ent} (h : (l.map plOf).Nodup) {i j : Nat} (hi : i < l.length) (hj : j < l.length) (hne : i ≠ j) : ¬ sameP l[i] l[j] := fun hs => by
  have e := plOf_same.2 hs
  have hp := List.pairwise_iff_getElem.1 h
  rcases Nat.lt_or_gt_of_ne hne with h1 | h1
  · exact hp i j (by simpa using hi) (by simpa using hj) h1 (by simpa using e)
  · exact hp j i (by simpa using hj) (by simpa using hi) h1 (by simpa using e.symm)
theorem rise_of {l : List Ent} (h : byPl l) (hn : (l.map plOf).Nodup) : Rise l := by
  refine List.pairwise_iff_getElem.2 fun i j hi hj hij => ?_
  have h1 := h i j hij hj
  rw [getD_at hi, getD_at hj] at h1
  rcases ltP_tri l[i] l[j] with h2 | h2 | h2
  · exact h2
  · exact absurd h2 (nodup_ne hn hi hj (by omega))
  · exact absurd h2 h1
theorem rise_steps {l : List Ent} (h : ∀ i, i + 1 < l.length → ltP (l.getD i default) (l.getD (i + 1) default)) : Rise l := by
  have go : ∀ d i, i + d + 1 < l.length → ltP (l.getD i default) (l.getD (i + d + 1) default) := by
    intro d
    induction d with
    | zero => exact fun i hi => h i hi
    | succ d ih => exact fun i hi => ltP_trans (ih i (by omega)) (h (i + d + 1) hi)
  refine List.pairwise_iff_getElem.2 fun i j hi hj hij => ?_
  have := go (j - i - 1) i (by omega)
  rw [show i + (j - i - 1) + 1 = j by omega, getD_at hi, getD_at hj] at this
  exact this
theorem steps_rise {l : List Ent} (h : Rise l) : ∀ i, i + 1 < l.length → ltP (l.getD i default) (l.getD (i + 1) default) := fun i hi => by
  rw [getD_at (by omega), getD_at hi]
  exact List.pairwise_iff_getElem.1 h i (i + 1) (by omega) hi (by omega)
theorem rise_by {l : List Ent} (h : Rise l) : byPl l := fun i j hij hj hlt => by
  have := List.pairwise_iff_getElem.1 h i j (by omega) hj hij
  rw [getD_at (by omega : i < l.length), getD_at hj] at hlt
  exact ltP_irrefl _ (ltP_trans this hlt)
theorem rise_once {l : List Ent} (h : Rise l) : (l.map plOf).Nodup := by
  refine List.pairwise_map.2 (h.imp fun hab e => not_both hab (plOf_same.1 e))
theorem rise_filter {l : List Ent} (P : Ent → Bool) (h : Rise l) : Rise (l.filter P) := h.sublist List.filter_sublist
/-- entries that rise are told by which there are -/
theorem rise_one : ∀ {l m : List Ent}, l.Perm m → Rise l → Rise m → l = m
  | [], m, hp, _, _ => (List.nil_perm.1 hp).symm
  | a :: l, [], hp, _, _ => absurd (List.perm_nil.1 hp) (by simp)
  | a :: l, b :: m, hp, h1, h2 => by
    have k1 := List.pairwise_cons.1 h1
    have k2 := List.pairwise_cons.1 h2
    have hab : a = b := by
      have ha : a ∈ b :: m := hp.mem_iff.1 (List.mem_cons_self ..)
      have hb : b ∈ a :: l := hp.mem_iff.2 (List.mem_cons_self ..)
      rcases List.mem_cons.1 ha with h | h
      · exact h
      · rcases List.mem_cons.1 hb with h' | h'
        · exact h'.symm
        · exact absurd (ltP_trans (k1.1 b h') (k2.1 a h)) (ltP_irrefl _)
    subst hab
    rw [rise_one (List.Perm.cons_inv hp) k1.2 k2.2]
theorem perm_once {l m : List Ent} (h : l.Perm m) : (l.map plOf).Nodup ↔ (m.map plOf).Nodup := (h.map plOf).nodup_iff
theorem has_perm {l m : List Ent} (h : l.Perm m) (p : Plc) : hasB l p = hasB m p := by
  rw [Bool.eq_iff_iff]
  unfold hasB
  simp only [List.any_eq_true]
  constructor
  · rintro ⟨x, hx, e⟩; exact ⟨x, h.mem_iff.1 hx, e⟩
  · rintro ⟨x, hx, e⟩; exact ⟨x, h.mem_iff.2 hx, e⟩
theorem has_no {l : List Ent} {p : Plc} (h : hasB l p = false) : p ∉ l.map plOf := fun hm => by
  obtain ⟨x, hx, e⟩ := List.mem_map.1 hm
  unfold hasB at h
  have := List.any_eq_false.1 h x hx
  simp [e] at this
theorem ents_eq (b : Buf) : entsB b = b.mem ++ b.runs.flatten := by unfold entsB partsB; rw [List.flatten_cons]
/-- a right buffer has no error -/
theorem errB_zero {b : Buf} (h : okB b) : errB b = 0 := by
  have h1 : betw b.lim 1 64 = true := (betw_iff _ _ _).2 h.lim
  have h2 : countB b = true := by unfold countB; simp only [Bool.and_eq_true, decide_eq_true_eq]; exact ⟨h.mem, h.all⟩
  have h3 : formB b = true := by
    unfold formB
    simp only [Bool.and_eq_true]
    refine ⟨allB_iff.2 fun i hi => ?_, ?_, ?_⟩
    · rw [getD_at hi]
      have hm : (partsB b)[i] ∈ partsB b := List.getElem_mem hi
      refine allB_iff.2 fun j hj => ?_
      unfold riseB
      simp only [Bool.and_eq_true, Bool.or_eq_true, decide_eq_true_eq]
      refine ⟨fineB_yes ?_, ?_⟩
      · rw [getD_at hj]; exact h.fine _ hm _ (List.getElem_mem hj)
      · cases j with
        | zero => exact .inl rfl
        | succ j => exact .inr (h.rise _ hm j hj)
    · unfold fullB
      refine allB_iff.2 fun i hi => ?_
      rw [getD_at hi]
      exact decide_eq_true (h.full _ (List.getElem_mem hi))
    · unfold onceB; exact decide_eq_true h.once
  unfold errB
  rw [h1, h2, h3]; rfl
theorem okB.rises {b : Buf} (h : okB b) {l : List Ent} (hl : l ∈ partsB b) : Rise l := rise_steps (h.rise l hl)
theorem okB.entry {b : Buf} (h : okB b) {y : Ent} (hy : y ∈ entsB b) : fineE y := by
  obtain ⟨l, hl, hy⟩ := List.mem_flatten.1 hy
  exact h.fine l hl y hy
/-- a buffer is right by its entries and parts -/
theorem okB_mk {b : Buf} (h1 : 1 ≤ b.lim ∧ b.lim ≤ 64) (h2 : (b.mem.length : Int) ≤ b.lim) (h3 : (entsB b).length ≤ 4096) (h4 : ∀ y ∈ entsB b, fineE y) (h5 : ∀ l ∈ partsB b, Rise l) (h6 : ∀ r ∈ b.runs, 0 < r.length) (h7 : ((entsB b).map plOf).Nodup) : okB b :=
  ⟨h1, h2, h3, fun l hl y hy => h4 y (List.mem_flatten.2 ⟨l, hl, hy⟩), fun l hl => steps_rise (h5 l hl), h6, h7⟩
/-! ### Put -/
theorem put_ents {b : Buf} {l' : List Ent} {y : Ent} (hp : l'.Perm (b.mem ++ [y])) : (entsB (putB b l')).Perm (y :: entsB b) := by
  have h1 : (b.mem ++ [y] ++ b.runs.flatten).Perm (y :: (b.mem ++ b.runs.flatten)) := by
    rw [List.append_assoc]
    exact List.perm_middle
  unfold putB
  split
  · rw [ents_eq, ents_eq]
    dsimp only
    rw [List.flatten_append, List.nil_append]
    simp only [List.flatten_cons, List.flatten_nil, List.append_nil]
    exact (List.perm_append_comm).trans ((hp.append_right _).trans h1)
  · rw [ents_eq, ents_eq]
    exact (hp.append_right _).trans h1
theorem put_right {b : Buf} {l' : List Ent} {y : Ent} (h : okB b) (hf : fineE y) (hh : hasB (entsB b) (plOf y) = false) (hm : (entsB b).length ≠ 4096) (hp : l'.Perm (b.mem ++ [y])) (hby : byPl l') : okB (putB b l') := by
  have he := put_ents (b := b) hp
  have hon : ((y :: entsB b).map plOf).Nodup := List.nodup_cons.2 ⟨has_no hh, h.once⟩
  have hln : (l'.map plOf).Nodup := by
    rw [perm_once hp]
    have hs : ((b.mem ++ [y]).map plOf).Perm ((y :: b.mem).map plOf) := (List.perm_append_comm).map _
    rw [hs.nodup_iff]
    refine List.nodup_cons.2 ⟨fun hm' => has_no hh ?_, ?_⟩
    · rw [ents_eq, List.map_append]; exact List.mem_append.2 (.inl hm')
    · have := h.once
      rw [ents_eq, List.map_append] at this
      exact (List.nodup_append.1 this).1
  have hr := rise_of hby hln
  have hlim : (putB b l').lim = b.lim := by unfold putB; split <;> rfl
  refine okB_mk (by rw [hlim]; exact h.lim) ?_ ?_ (fun z hz => ?_) (fun l hl => ?_) (fun r hr' => ?_) ?_
  · have := h.lim
    unfold putB
    split
    · dsimp only [List.length_nil]; omega
    · dsimp only; omega
  · rw [he.length_eq, List.length_cons]
    have := h.all
    omega
  · rcases List.mem_cons.1 (he.mem_iff.1 hz) with rfl | hz
    · exact hf
    · exact h.entry hz
  · unfold putB at hl
    split at hl
    · rcases List.mem_cons.1 hl with rfl | hl
      · exact List.Pairwise.nil
      · rcases List.mem_append.1 hl with hl | hl
        · exact h.rises (List.mem_cons_of_mem _ hl)
        · have : l = l' := by simpa using hl
          rw [this]; exact hr
    · rcases List.mem_cons.1 hl with rfl | hl
      · exact hr
      · exact h.rises (List.mem_cons_of_mem _ hl)
  · have hlen : l'.length = b.mem.length + 1 := by rw [hp.length_eq]; simp
    unfold putB at hr'
    split at hr'
    · rcases List.mem_append.1 hr' with hr' | hr'
      · exact h.full r hr'
      · have : r = l' := by simpa using hr'
        rw [this]; omega
    · exact h.full r hr'
  · rw [perm_once he]; exact hon
/-! ### Drop, Take -/
theorem flat_kept (P : Ent → Bool) : ∀ l : List (List Ent), (keptR P l).flatten = l.flatten.filter P
  | [] => rfl
  | r :: l => by
    have ih := flat_kept P l
    unfold keptR at ih ⊢
    rw [List.map_cons, List.flatten_cons, List.filter_append, ← ih]
    by_cases h : 0 < (r.filter P).length
    · rw [List.filter_cons_of_pos (by simpa using h), List.flatten_cons]
    · have : r.filter P = [] := List.length_eq_zero_iff.1 (by omega)
      rw [List.filter_cons_of_neg (by simpa using h), this, List.nil_append]
theorem kept_ents (P : Ent → Bool) (b : Buf) : entsB (keptB P b) = (entsB b).filter P := by
  rw [ents_eq, ents_eq, List.filter_append]
  unfold keptB
  dsimp only
  rw [flat_kept]
theorem kept_right {b : Buf} (P : Ent → Bool) (h : okB b) : okB (keptB P b) := by
  have he := kept_ents P b
  refine okB_mk h.lim ?_ ?_ (fun z hz => ?_) (fun l hl => ?_) (fun r hr => ?_) ?_
  · have h1 := h.mem
    have h2 : (keptB P b).mem.length ≤ b.mem.length := List.length_filter_le _ _
    show ((keptB P b).mem.length : Int) ≤ b.lim
    omega
  · rw [he]; exact Nat.le_trans (List.length_filter_le _ _) h.all
  · rw [he] at hz; exact h.entry (List.mem_filter.1 hz).1
  · rcases List.mem_cons.1 hl with rfl | hl
    · exact rise_filter P (h.rises (List.mem_cons_self ..))
    · obtain ⟨hl, _⟩ := List.mem_filter.1 (show l ∈ keptR P b.runs from hl)
      obtain ⟨r, hr, rfl⟩ := List.mem_map.1 hl
      exact rise_filter P (h.rises (List.mem_cons_of_mem _ hr))
  · obtain ⟨_, hl⟩ := List.mem_filter.1 (show r ∈ keptR P b.runs from hr)
    exact of_decide_eq_true hl
  · rw [he]
    exact h.once.sublist (List.filter_sublist.map _)
/-! ### Pack -/
theorem pack_ents (lim : Int) (l : List Ent) : entsB (packB lim l) = l := by
  rw [ents_eq]
  unfold packB
  dsimp only
  split
  · simp
  · have : l = [] := List.length_eq_zero_iff.1 (by omega)
    rw [this]; rfl
theorem pack_right {b : Buf} {l : List Ent} (h : okB b) (hp : l.Perm (entsB b)) (hby : byPl l) : okB (packB b.lim l) := by
  have he := pack_ents b.lim l
  have hon : (l.map plOf).Nodup := (perm_once hp).2 h.once
  have hr := rise_of hby hon
  refine okB_mk h.lim ?_ ?_ (fun z hz => ?_) (fun l' hl => ?_) (fun r hr' => ?_) ?_
  · have := h.lim
    show (([] : List Ent).length : Int) ≤ b.lim
    dsimp only [List.length_nil]; omega
  · rw [he, hp.length_eq]; exact h.all
  · rw [he] at hz; exact h.entry (hp.mem_iff.1 hz)
  · rcases List.mem_cons.1 hl with rfl | hl
    · exact List.Pairwise.nil
    · have hl' : l' ∈ (if 0 < l.length then [l] else []) := hl
      split at hl'
      · have : l' = l := by simpa using hl'
        rw [this]; exact hr
      · cases hl'
  · have hl' : r ∈ (if 0 < l.length then [l] else []) := hr'
    split at hl'
    · have : r = l := by simpa using hl'
      rw [this]; assumption
    · cases hl'
  · rw [he]; exact hon
theorem new_right {k : Int} (h : betw k 1 64 = true) : okB ⟨k, [], []⟩ := by
  have := (betw_iff _ _ _).1 h
  refine okB_mk this ?_ (by simp [entsB, partsB]) (fun y hy => by simp [entsB, partsB] at hy) (fun l hl => ?_) (fun r hr => by cases hr) (by simp [entsB, partsB])
  · show (([] : List Ent).length : Int) ≤ k
    dsimp only [List.length_nil]; omega
  · have : l = [] := by simpa [partsB] using hl
    rw [this]; exact List.Pairwise.nil
end Go.Proofs.Ytnfknkihiapgiaa.bf
