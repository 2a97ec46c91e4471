import Derived.Test.YtbfbgdinhiglaaaGreatS27
import Derived.Test.YtbfbgdinhiglaaaGreatS9
import Derived.Test.YtbfbgdinhiglaaaGreatMgBatJ
/- Sums over changes: by a property of their rows; what no row has less than nothing of, no property has. -/
namespace Go.Proofs.YtbfbgdinhiglaaaGreat.gr
open Go.ChangeShapes Go.WideShapes Go.ChangeAt Go.RowKit
open vl pl bt
set_option linter.unusedVariables false
set_option linter.unusedSimpArgs false
/-- how much changes move the rows that have a property -/
def sumC (Q : List Cel → Bool) : List ch.Chg → Int
  | [] => 0
  | c :: l => (if Q c.r = true then ch.moreOf c.k else 0) + sumC Q l
/-- a row's own property -/
def isR (r : List Cel) : List Cel → Bool := fun x => decide (x = r)
theorem isR_self (r : List Cel) : isR r r = true := by simp [isR]
theorem isR_ne {r x : List Cel} (h : x ≠ r) : isR r x = false := by simp [isR, h]
theorem sumC_split (Q : List Cel → Bool) (r0 : List Cel) (l : List ch.Chg) : sumC Q l = sumC Q (l.filter fun c => !isR r0 c.r) + if Q r0 = true then sumC (isR r0) l else 0 := by
  induction l with
  | nil => simp [sumC]
  | cons c l ih =>
    have h1 : sumC Q (c :: l) = (if Q c.r = true then ch.moreOf c.k else 0) + sumC Q l := rfl
    have h2 : sumC (isR r0) (c :: l) = (if isR r0 c.r = true then ch.moreOf c.k else 0) + sumC (isR r0) l := rfl
    rw [h1, h2, ih]
    by_cases e : c.r = r0
    · have h3 : ((c :: l).filter fun c => !isR r0 c.r) = l.filter fun c => !isR r0 c.r := List.filter_cons_of_neg (by simp [isR, e])
      rw [h3, e, isR_self, if_pos (rfl : true = true)]
      split <;> omega
    · have h3 : ((c :: l).filter fun c => !isR r0 c.r) = c :: l.filter fun c => !isR r0 c.r := List.filter_cons_of_pos (by simp [isR, e])
      have h4 : sumC Q (c :: l.filter fun c => !isR r0 c.r) = (if Q c.r = true then ch.moreOf c.k else 0) + sumC Q (l.filter fun c => !isR r0 c.r) := rfl
      rw [h3, h4, isR_ne e, if_neg (by decide : ¬(false = true)), Int.zero_add]
      omega
theorem rest_own (r0 : List Cel) (l : List ch.Chg) : sumC (isR r0) (l.filter fun c => !isR r0 c.r) = 0 := by
  have := sumC_split (isR r0) r0 l
  rw [isR_self, if_pos rfl] at this
  omega
theorem rest_other {r r0 : List Cel} (h : r ≠ r0) (l : List ch.Chg) : sumC (isR r) (l.filter fun c => !isR r0 c.r) = sumC (isR r) l := by
  have := sumC_split (isR r) r0 l
  rw [isR_ne (Ne.symm h), if_neg (by simp)] at this
  omega
theorem rest_less (c : ch.Chg) (l : List ch.Chg) : ((c :: l).filter fun x => !isR c.r x.r).length ≤ l.length := by
  rw [List.filter_cons, if_neg (by simp [isR])]
  exact List.length_filter_le ..
theorem sum_rows : ∀ (n : Nat) (l : List ch.Chg), l.length ≤ n → (∀ r, 0 ≤ sumC (isR r) l) → ∀ Q : List Cel → Bool, 0 ≤ sumC Q l ∧ ∀ r, Q r = true → sumC (isR r) l ≤ sumC Q l
  | n, [], _, _, Q => ⟨by simp [sumC], fun r _ => by simp [sumC]⟩
  | 0, c :: l, h, _, Q => absurd h (by simp)
  | n + 1, c :: l, h, hp, Q => by
    have hs := sumC_split Q c.r (c :: l)
    have hl := rest_less c l
    obtain ⟨l', hl'⟩ : ∃ z, ((c :: l).filter fun x => !isR c.r x.r) = z := ⟨_, rfl⟩
    have ho := rest_own c.r (c :: l)
    have hq : ∀ r, r ≠ c.r → sumC (isR r) l' = sumC (isR r) (c :: l) := fun r hr => by rw [← hl']; exact rest_other hr _
    rw [hl'] at hs hl ho
    have hp' : ∀ r, 0 ≤ sumC (isR r) l' := fun r => by
      by_cases e : r = c.r
      · rw [e, ho]; exact Int.le_refl _
      · rw [hq r e]; exact hp r
    have ih := sum_rows n l' (by simp at h; omega) hp' Q
    have h0 := hp c.r
    refine ⟨by rw [hs]; split <;> omega, fun r hr => ?_⟩
    by_cases e : r = c.r
    · rw [hs, ← e, if_pos hr]; omega
    · have := ih.2 r hr
      rw [hq r e] at this
      rw [hs]
      split <;> omega
theorem sum_none : ∀ (n : Nat) (l : List ch.Chg), l.length ≤ n → (∀ r, sumC (isR r) l = 0) → ∀ Q : List Cel → Bool, sumC Q l = 0
  | n, [], _, _, Q => rfl
  | 0, c :: l, h, _, Q => absurd h (by simp)
  | n + 1, c :: l, h, hp, Q => by
    have hs := sumC_split Q c.r (c :: l)
    have hl := rest_less c l
    obtain ⟨l', hl'⟩ : ∃ z, ((c :: l).filter fun x => !isR c.r x.r) = z := ⟨_, rfl⟩
    have ho := rest_own c.r (c :: l)
    have hq : ∀ r, r ≠ c.r → sumC (isR r) l' = sumC (isR r) (c :: l) := fun r hr => by rw [← hl']; exact rest_other hr _
    rw [hl'] at hs hl ho
    have hp' : ∀ r, sumC (isR r) l' = 0 := fun r => by
      by_cases e : r = c.r
      · rw [e, ho]
      · rw [hq r e]; exact hp r
    have ih := sum_none n l' (by simp at h; omega) hp' Q
    have h0 := hp c.r
    rw [hs, ih, h0]
    simp
/-- the rows of a view that have a property -/
def sumV (Q : List Cel → Bool) (v : List ch.Cnt) : Int := (v.map fun c => if Q c.r = true then c.n else 0).sum
theorem sumV_cons (Q : List Cel → Bool) (c : ch.Cnt) (v : List ch.Cnt) : sumV Q (c :: v) = (if Q c.r = true then c.n else 0) + sumV Q v := by simp [sumV]
/-- a view that holds just what the changes leave of each row -/
theorem sum_view : ∀ (v : List ch.Cnt) (l : List ch.Chg), (v.map (·.r)).Nodup → (∀ c ∈ v, c.n = sumC (isR c.r) l) → (∀ r, r ∉ v.map (·.r) → sumC (isR r) l = 0) → ∀ Q, sumV Q v = sumC Q l
  | [], l, _, _, h, Q => by rw [sum_none l.length l (Nat.le_refl _) (fun r => h r (by simp)) Q]; simp [sumV]
  | c :: v, l, hn, hc, h, Q => by
    rw [List.map_cons, List.nodup_cons] at hn
    rw [sumV_cons, sumC_split Q c.r l, sum_view v (l.filter fun x => !isR c.r x.r) hn.2 (fun d hd => ?_) (fun r hr => ?_) Q, hc c (List.mem_cons_self ..)]
    · omega
    · rw [rest_other (fun e => hn.1 (List.mem_map.2 ⟨d, hd, e⟩))]
      exact hc d (List.mem_cons_of_mem _ hd)
    · by_cases e : r = c.r
      · rw [e]; exact rest_own _ _
      · rw [rest_other e]
        refine h r (fun k => ?_)
        rw [List.map_cons] at k
        rcases List.mem_cons.1 k with k | k
        · exact e k
        · exact hr k
/-- changes, done one behind the other, move each group's number and tallies by their sums -/
theorem all_cnt {p : Pln} (h0 : planErr p = 0) (hg : p.grouped = true) : ∀ (l : List ch.Chg) (gs : List Grp), (∀ c ∈ l, rowF p c.r ∧ 1 ≤ c.k ∧ c.k ≤ 4) → gsR p gs → (doAll p gs l).1 = 0 →
    gsR p (doAll p gs l).2 ∧ (∀ key, cntG (doAll p gs l).2 key = cntG gs key + sumC (fun r => decide (pickR r p.group = key)) l) ∧
    ∀ j, j < p.aggs.length → (p.aggs.getD j (0, 0)).1 ≠ 1 → ∀ key c, talG (doAll p gs l).2 j key c = talG gs j key c + sumC (fun r => decide (pickR r p.group = key ∧ r.getD (p.aggs.getD j (0, 0)).2.toNat default = c)) l
  | [], gs, _, h, _ => ⟨h, fun key => by simp [doAll, sumC], fun j hj h1 key c => by simp [doAll, sumC]⟩
  | c :: l, gs, hl, h, hd => by
    obtain ⟨hr, h1, h4⟩ := hl c (List.mem_cons_self ..)
    by_cases hz : (doG p c.k c.r gs).1 = 0
    · rw [doAll_ok hz] at hd ⊢
      obtain ⟨i1, i2, i3⟩ := all_cnt h0 hg l _ (fun x hx => hl x (List.mem_cons_of_mem _ hx)) (do_right h0 hg hr h hz) hd
      refine ⟨i1, fun key => ?_, fun j hj hn key d => ?_⟩
      · rw [i2 key, do_cnt h0 hr h1 h4 h hz key, sumC]
        simp only [decide_eq_true_eq]
        omega
      · rw [i3 j hj hn key d, do_tal h0 hg hr h1 h4 h hz j hj hn key d, sumC]
        simp only [decide_eq_true_eq]
        omega
    · rw [doAll_bad hz] at hd
      exact absurd hd hz
end Go.Proofs.YtbfbgdinhiglaaaGreat.gr
/- Where no row is ever taken that is not there, groups never lack what a change takes. -/
namespace Go.Proofs.YtbfbgdinhiglaaaGreat.gr
open Go.ChangeShapes Go.WideShapes Go.ChangeAt Go.RowKit
open vl pl bt
set_option linter.unusedVariables false
set_option linter.unusedSimpArgs false
theorem doAll_app {p : Pln} : ∀ (l m : List ch.Chg) (gs : List Grp), (doAll p gs l).1 = 0 → doAll p gs (l ++ m) = doAll p (doAll p gs l).2 m
  | [], m, gs, _ => rfl
  | c :: l, m, gs, h => by
    by_cases hz : (doG p c.k c.r gs).1 = 0
    · rw [doAll_ok hz] at h
      rw [List.cons_append, doAll_ok hz, doAll_ok hz]
      exact doAll_app l m _ h
    · rw [doAll_bad hz] at h
      exact absurd h hz
theorem doAll_stop {p : Pln} : ∀ (l m : List ch.Chg) (gs : List Grp), (doAll p gs l).1 ≠ 0 → (doAll p gs (l ++ m)).1 = (doAll p gs l).1
  | [], m, gs, h => absurd rfl h
  | c :: l, m, gs, h => by
    by_cases hz : (doG p c.k c.r gs).1 = 0
    · rw [doAll_ok hz] at h ⊢
      rw [List.cons_append, doAll_ok hz]
      exact doAll_stop l m _ h
    · rw [List.cons_append, doAll_bad hz, doAll_bad hz]
theorem doAll_one {p : Pln} {gs : List Grp} {c : ch.Chg} : (doAll p gs [c]).1 = (doG p c.k c.r gs).1 := by
  by_cases hz : (doG p c.k c.r gs).1 = 0
  · rw [doAll_ok hz, doAll, hz]
  · rw [doAll_bad hz]
theorem sumG_zero {F : Grp → Int} {gs : List Grp} (h : ∀ x ∈ gs, F x = 0) : sumG F gs = 0 := by
  induction gs with
  | nil => rfl
  | cons g gs ih => rw [sumG_cons, h g (List.mem_cons_self ..), ih (fun x hx => h x (List.mem_cons_of_mem _ hx))]; rfl
theorem hasG_of : ∀ {gs : List Grp} {key : List Cel}, (∀ g ∈ gs, ∀ z ∈ g.row, fineC z) → upG gs → (∀ z ∈ key, fineC z) → cntG gs key ≠ 0 → hasG gs key = true
  | [], key, _, _, _, h => absurd rfl h
  | u :: gs, key, hf, hup, hk, h => by
    by_cases e : u.row = key
    · have hz := rows_own hk
      have hi : idxG (u :: gs) key = 0 := by
        unfold idxG
        rw [List.takeWhile_cons, e, hz]
        simp
      unfold hasG
      rw [hi]
      simp [e, hz]
    · unfold cntG at h
      rw [sumG_cons, if_neg e, Int.zero_add] at h
      unfold upG at hup
      rw [List.map_cons, List.pairwise_cons] at hup
      have ih := hasG_of (fun t ht => hf t (List.mem_cons_of_mem _ ht)) hup.2 hk h
      have hlt : cmpRows u.row key < 0 := by
        have : ∃ t ∈ gs, t.row = key := by
          refine Classical.byContradiction fun hn => h ?_
          exact sumG_zero fun t ht => if_neg fun e => hn ⟨t, ht, e⟩
        obtain ⟨t, ht, rfl⟩ := this
        exact hup.1 _ (List.mem_map.2 ⟨t, ht, rfl⟩)
      have hi : idxG (u :: gs) key = idxG gs key + 1 := by
        unfold idxG
        rw [List.takeWhile_cons, decide_eq_true hlt]
        simp
      unfold hasG at ih ⊢
      rw [hi]
      simpa using ih
/-- a sum that only one key's group has part in -/
theorem own_sum {gs : List Grp} (hf : ∀ g ∈ gs, ∀ z ∈ g.row, fineC z) (hup : upG gs) {i : Nat} (hi : i < gs.length) (F : Grp → Int) : sumG (fun g => if g.row = (gs.getD i default).row then F g else 0) gs = F (gs.getD i default) := by
  have hsp := split_gs gs i hi
  have hg := hf _ (getD_mm hi)
  obtain ⟨g, eg⟩ : ∃ z, gs.getD i default = z := ⟨_, rfl⟩
  obtain ⟨A, hA⟩ : ∃ A, gs.take i = A := ⟨_, rfl⟩
  obtain ⟨B, hB⟩ : ∃ B, gs.drop (i + 1) = B := ⟨_, rfl⟩
  rw [eg, hA, hB] at hsp
  rw [eg] at hg ⊢
  unfold upG at hup
  rw [hsp, List.map_append, List.map_cons, List.pairwise_append, List.pairwise_cons] at hup
  have hz := rows_own hg
  rw [hsp, sumG_app, sumG_cons, sumG_zero, sumG_zero, if_pos rfl]
  · omega
  · intro x hx
    refine if_neg fun e => ?_
    have := hup.2.1.1 x.row (List.mem_map.2 ⟨x, hx, rfl⟩)
    rw [e, hz] at this
    omega
  · intro x hx
    refine if_neg fun e => ?_
    have := hup.2.2 x.row (List.mem_map.2 ⟨x, hx, rfl⟩) g.row (List.mem_cons_self ..)
    rw [e, hz] at this
    omega
/-- what a change's row says of the numbers and tallies, where at least one such row is there -/
theorem do_there {p : Pln} {r : List Cel} {gs : List Grp} {k : Int} (h0 : planErr p = 0) (hg : p.grouped = true) (hr : rowF p r) (h : gsR p gs) (h1 : cntG gs (pickR r p.group) ≠ 0)
    (h2 : ∀ j, j < p.aggs.length → (p.aggs.getD j (0, 0)).1 ≠ 1 → talG gs j (pickR r p.group) (r.getD (p.aggs.getD j (0, 0)).2.toNat default) ≠ 0) : (doG p k r gs).1 = 0 ∨ (doG p k r gs).1 = 2 := by
  obtain ⟨kf, kt⟩ := key_fine h0 hr
  have hF : ∀ g ∈ gs, ∀ z ∈ g.row, fineC z := fun g hg => (h.each g hg).1.row
  have hh := hasG_of hF h.up kf h1
  obtain ⟨hi, hc⟩ := hasG_lt hh
  obtain ⟨e1, e2, e3⟩ := h.each _ (getD_mm hi)
  have er := rows_same e1.row kf hc
  have hm : mayG p r (gs.getD (idxG gs (pickR r p.group)) default) = true := by
    unfold mayG
    refine allB_iff.2 fun j hj => ?_
    rw [e1.bl] at hj
    by_cases hn : (p.aggs.getD j (0, 0)).1 = 1
    · rw [decide_eq_true hn]; rfl
    · have h3 := h2 j hj hn
      unfold talG at h3
      have h4 := own_sum hF h.up hi (fun g => cntT (g.bags.getD j []) (r.getD (p.aggs.getD j (0, 0)).2.toNat default))
      rw [er] at h4
      rw [h4] at h3
      have hb := bag_at e1 hj hn
      rw [has_of (fun t ht => (hb.fine t ht).1) hb.up (col_right h0 hg hr hj hn).1 h3, Bool.or_true]
  unfold doG
  rw [hh, hm]
  simp only [Bool.true_eq_false, if_false, if_true]
  by_cases hk : k = 2 ∨ k = 3
  · rw [if_pos hk]
    split <;> exact .inl rfl
  · rw [if_neg hk]
    split
    · exact .inr rfl
    · exact .inl rfl
theorem do_comes {p : Pln} {r : List Cel} {gs : List Grp} {k : Int} (hk : ¬(k = 2 ∨ k = 3)) : (doG p k r gs).1 = 0 ∨ (doG p k r gs).1 = 2 := by
  unfold doG
  rw [if_neg hk]
  split
  · split
    · exact .inr rfl
    · exact .inl rfl
  · split
    · exact .inr rfl
    · exact .inl rfl
theorem none_cnt (key : List Cel) : cntG [] key = 0 := rfl
theorem none_tal (j : Nat) (key : List Cel) (c : Cel) : talG [] j key c = 0 := rfl
theorem none_right (p : Pln) : gsR p [] := ⟨fun g hg => absurd hg List.not_mem_nil, List.Pairwise.nil, Nat.zero_le _⟩
/-- changes that can be done to a view without rows can be done to groups without rows, but for their number -/
theorem all_fit {p : Pln} (h0 : planErr p = 0) (hg : p.grouped = true) (l : List ch.Chg) (hl : ∀ c ∈ l, rowF p c.r ∧ 1 ≤ c.k ∧ c.k ≤ 4) (hp : ∀ i, i ≤ l.length → ∀ r, 0 ≤ sumC (isR r) (l.take i)) (hq : ∀ i, i < l.length → ((l.getD i default).k = 2 ∨ (l.getD i default).k = 3) → 1 ≤ sumC (isR (l.getD i default).r) (l.take i)) :
    ∀ i, i ≤ l.length → (doAll p [] (l.take i)).1 = 0 ∨ (doAll p [] (l.take i)).1 = 2
  | 0, _ => .inl rfl
  | i + 1, hi => by
    have ih := all_fit h0 hg l hl hp hq i (by omega)
    have et : l.take (i + 1) = l.take i ++ [l.getD i default] := by
      rw [List.take_succ_eq_append_getElem (by omega)]; simp [List.getD_eq_getElem?_getD, show i < l.length by omega]
    rcases ih with ih | ih
    · rw [et, doAll_app _ _ _ ih, doAll_one]
      have hlt : ∀ c ∈ l.take i, rowF p c.r ∧ 1 ≤ c.k ∧ c.k ≤ 4 := fun c hc => hl c (List.mem_of_mem_take hc)
      obtain ⟨i1, i2, i3⟩ := all_cnt h0 hg (l.take i) [] hlt (none_right p) ih
      obtain ⟨c, ec⟩ : ∃ z, l.getD i default = z := ⟨_, rfl⟩
      have hc : c ∈ l := by rw [← ec]; exact getD_mm (by omega)
      have hr := (hl c hc).1
      by_cases hk : c.k = 2 ∨ c.k = 3
      · have hs := hq i (by omega) (by rw [ec]; exact hk)
        rw [ec] at hs ⊢
        have hrow := sum_rows _ (l.take i) (Nat.le_refl _) (hp i (by omega))
        refine do_there h0 hg hr i1 ?_ (fun j hj hn => ?_)
        · rw [i2, none_cnt]
          have := (hrow (fun r => decide (pickR r p.group = pickR c.r p.group))).2 c.r (by simp)
          omega
        · rw [i3 j hj hn, none_tal]
          have := (hrow (fun r => decide (pickR r p.group = pickR c.r p.group ∧ r.getD (p.aggs.getD j (0, 0)).2.toNat default = c.r.getD (p.aggs.getD j (0, 0)).2.toNat default))).2 c.r (by simp)
          omega
      · rw [ec]; exact do_comes hk
    · right
      rw [et, doAll_stop _ _ _ (by rw [ih]; decide), ih]
end Go.Proofs.YtbfbgdinhiglaaaGreat.gr
/- Changes that Fold can do: what is left of each row, and of all rows that have a property. -/
namespace Go.Proofs.YtbfbgdinhiglaaaGreat.gr
open Go.ChangeShapes Go.WideShapes Go.ChangeAt Go.RowKit
open vl pl bt
set_option linter.unusedVariables false
set_option linter.unusedSimpArgs false
theorem row_sum {r : List Cel} (hr : rowOk r) : ∀ {m : List ch.Chg}, (∀ c ∈ m, rowOk c.r) → sumC (isR r) m = ch.sumK m (encR r)
  | [], _ => rfl
  | c :: m, h => by
    have h1 : sumC (isR r) (c :: m) = (if isR r c.r = true then ch.moreOf c.k else 0) + sumC (isR r) m := rfl
    have h2 : ch.sumK (c :: m) (encR r) = (if encR r = encR c.r then ch.moreOf c.k else 0) + ch.sumK m (encR r) := rfl
    rw [h1, h2, row_sum hr (fun x hx => h x (List.mem_cons_of_mem _ hx))]
    by_cases e : c.r = r
    · rw [e, isR_self, if_pos rfl, if_pos rfl]
    · rw [isR_ne e, if_neg (by decide), if_neg (fun k => e (encR_inj (h c (List.mem_cons_self ..)).2 hr.2 k.symm))]
theorem row_none {r : List Cel} (hr : ¬rowOk r) : ∀ {m : List ch.Chg}, (∀ c ∈ m, rowOk c.r) → sumC (isR r) m = 0
  | [], _ => rfl
  | c :: m, h => by
    have h1 : sumC (isR r) (c :: m) = (if isR r c.r = true then ch.moreOf c.k else 0) + sumC (isR r) m := rfl
    rw [h1, row_none hr (fun x hx => h x (List.mem_cons_of_mem _ hx)), isR_ne (fun e => hr (by rw [← e]; exact h c (List.mem_cons_self ..))), if_neg (by decide)]
    rfl
theorem addE_least {kv : ch.KV} {k : List UInt8} {n : Int} (h : ch.addE kv k n = 0) : 0 ≤ ch.getK kv k + n := by
  unfold ch.addE at h
  by_cases h1 : ch.getK kv k + n < 0
  · rw [if_pos h1] at h; cases h
  · omega
theorem at_least {l : List ch.Chg} (he : ∀ i, i < l.length → ch.errK [] l i = 0) (k : List UInt8) : ∀ i, i ≤ l.length → 0 ≤ ch.getK (ch.atK [] l i) k
  | 0, _ => Int.le_refl 0
  | i + 1, hi => by
    have h1 := he i (by omega)
    have ih := at_least he k i (by omega)
    rw [ch.atK_succ [] l i (by omega), ch.addV_get h1]
    have h2 := addE_least h1
    by_cases e : k = encR (l.getD i default).r
    · rw [if_pos e, e]; exact h2
    · rw [if_neg e]; omega
theorem at_row {l : List ch.Chg} (hr : ∀ c ∈ l, rowOk c.r) (he : ∀ i, i < l.length → ch.errK [] l i = 0) (i : Nat) (hi : i ≤ l.length) {r : List Cel} (h : rowOk r) : ch.getK (ch.atK [] l i) (encR r) = sumC (isR r) (l.take i) := by
  rw [ch.at_get i hi (fun j hj => he j (by omega)), row_sum h (fun c hc => hr c (List.mem_of_mem_take hc))]
  show 0 + _ = _
  omega
theorem fold_least {l : List ch.Chg} (hr : ∀ c ∈ l, rowOk c.r) (he : ∀ i, i < l.length → ch.errK [] l i = 0) (i : Nat) (hi : i ≤ l.length) (r : List Cel) : 0 ≤ sumC (isR r) (l.take i) := by
  by_cases h : rowOk r
  · rw [← at_row hr he i hi h]; exact at_least he _ i hi
  · rw [row_none h (fun c hc => hr c (List.mem_of_mem_take hc))]; exact Int.le_refl 0
theorem fold_there {l : List ch.Chg} (hr : ∀ c ∈ l, rowOk c.r) (he : ∀ i, i < l.length → ch.errK [] l i = 0) (i : Nat) (hi : i < l.length) (hk : (l.getD i default).k = 2 ∨ (l.getD i default).k = 3) : 1 ≤ sumC (isR (l.getD i default).r) (l.take i) := by
  have h1 := addE_least (he i hi)
  rw [more_go hk, at_row hr he i (by omega) (hr _ (getD_mm hi))] at h1
  omega
/-- the view that Fold answers, and the changes: as much of each property -/
theorem fold_view {l : List ch.Chg} {v : List ch.Cnt} (hr : ∀ c ∈ l, rowOk c.r) (he : ∀ i, i < l.length → ch.errK [] l i = 0) (hv : ch.kvOf v = ch.atK [] l l.length) (hg : ch.good (ch.kvOf v)) (hvr : ∀ c ∈ v, rowOk c.r) (Q : List Cel → Bool) : sumV Q v = sumC Q l := by
  have hat : ∀ {r : List Cel}, rowOk r → ch.getK (ch.kvOf v) (encR r) = sumC (isR r) l := fun h => by
    have := at_row hr he l.length (Nat.le_refl _) h
    rw [List.take_length] at this
    rw [hv, this]
  refine sum_view v l ?_ (fun c hc => ?_) (fun r hn => ?_) Q
  · have hup := hg.up
    unfold ch.rising ch.kvOf at hup
    rw [List.pairwise_map] at hup
    unfold List.Nodup
    rw [List.pairwise_map]
    refine hup.imp fun {a b} h e => ?_
    rw [e, ch.before_lt, decide_eq_true_eq] at h
    exact List.lt_irrefl _ h
  · rw [← hat (hvr c hc)]
    exact (ch.getK_of hg.up (ch.kvOf_mem hc)).symm
  · by_cases h : rowOk r
    · rw [← hat h]
      refine ch.getK_none fun q hq e => hn ?_
      obtain ⟨c, hc, rfl⟩ := List.mem_map.1 hq
      exact List.mem_map.2 ⟨c, hc, encR_inj (hvr c hc).2 h.2 e⟩
    · exact row_none h hr
end Go.Proofs.YtbfbgdinhiglaaaGreat.gr
/- A figure of a bag: it is told by how often each cell stands in the bag. -/
namespace Go.Proofs.YtbfbgdinhiglaaaGreat.gr
open Go.ChangeShapes Go.WideShapes Go.ChangeAt Go.RowKit
open vl pl bt
set_option linter.unusedVariables false
set_option linter.unusedSimpArgs false
/-- cells that weigh something, added up -/
def wT (W : Cel → Int) (l : List Tal) : Int := (l.map fun t => W t.1 * t.2).sum
theorem wT_cons (W : Cel → Int) (t : Tal) (l : List Tal) : wT W (t :: l) = W t.1 * t.2 + wT W l := by simp [wT]
def offT (c : Cel) (l : List Tal) : List Tal := l.filter fun t => !decide (t.1 = c)
theorem off_cons (c : Cel) (t : Tal) (l : List Tal) : offT c (t :: l) = if t.1 = c then offT c l else t :: offT c l := by
  unfold offT
  rw [List.filter_cons]
  by_cases e : t.1 = c
  · simp [e]
  · simp [e]
theorem wT_split (W : Cel → Int) (c : Cel) : ∀ l : List Tal, wT W l = wT W (offT c l) + W c * cntT l c
  | [] => by simp [wT, offT, cntT]
  | t :: l => by
    rw [wT_cons, wT_split W c l, off_cons, cntT_cons]
    by_cases e : t.1 = c
    · rw [if_pos e, if_pos e, e, Int.mul_add]; omega
    · rw [if_neg e, if_neg e, wT_cons, Int.zero_add]; omega
theorem off_own (c : Cel) : ∀ l : List Tal, cntT (offT c l) c = 0
  | [] => by simp [offT, cntT]
  | t :: l => by
    rw [off_cons]
    by_cases e : t.1 = c
    · rw [if_pos e]; exact off_own c l
    · rw [if_neg e, cntT_cons, if_neg e, off_own c l]; rfl
theorem off_other {c d : Cel} (h : d ≠ c) : ∀ l : List Tal, cntT (offT c l) d = cntT l d
  | [] => by simp [offT, cntT]
  | t :: l => by
    rw [off_cons]
    by_cases e : t.1 = c
    · rw [if_pos e, off_other h l, cntT_cons, if_neg (by rw [e]; exact Ne.symm h)]; omega
    · rw [if_neg e, cntT_cons, cntT_cons, off_other h l]
theorem off_le (c : Cel) (l : List Tal) : (offT c l).length ≤ l.length := List.length_filter_le ..
/-- bags in which each cell stands as often weigh the same -/
theorem wT_same (W : Cel → Int) : ∀ (n : Nat) (l m : List Tal), l.length + m.length ≤ n → (∀ c, cntT l c = cntT m c) → wT W l = wT W m
  | n, [], [], _, _ => rfl
  | 0, t :: l, m, h, _ => absurd h (by simp)
  | 0, [], t :: m, h, _ => absurd h (by simp)
  | n + 1, t :: l, m, h, hs => by
    have ih := wT_same W n (offT t.1 (t :: l)) (offT t.1 m) (by
      have h1 := off_le t.1 l
      have h2 := off_le t.1 m
      rw [off_cons, if_pos rfl]
      simp only [List.length_cons] at h
      omega) (fun d => by
      by_cases e : d = t.1
      · rw [e, off_own, off_own]
      · rw [off_other e, off_other e, hs])
    rw [wT_split W t.1 (t :: l), wT_split W t.1 m, ih, hs]
  | n + 1, [], t :: m, h, hs => by
    have ih := wT_same W n (offT t.1 []) (offT t.1 (t :: m)) (by
      have h1 := off_le t.1 m
      rw [off_cons, if_pos rfl]
      simp only [List.length_cons, List.length_nil] at h
      simp only [offT, List.filter_nil, List.length_nil]
      unfold offT at h1
      omega) (fun d => by
      by_cases e : d = t.1
      · rw [e, off_own, off_own]
      · rw [off_other e, off_other e, hs])
    rw [wT_split W t.1 [], wT_split W t.1 (t :: m), ih, hs]
/-- a bag whose numbers are all one or more -/
def posT (l : List Tal) : Prop := ∀ t ∈ l, 1 ≤ t.2
theorem pos_least {l : List Tal} (h : posT l) (c : Cel) : 0 ≤ cntT l c := by
  induction l with
  | nil => simp [cntT]
  | cons t l ih =>
    rw [cntT_cons]
    have h1 := h t (List.mem_cons_self ..)
    have h2 := ih (fun x hx => h x (List.mem_cons_of_mem _ hx))
    split <;> omega
theorem mem_cnt {l : List Tal} (h : posT l) (c : Cel) : (∃ t ∈ l, t.1 = c) ↔ cntT l c ≠ 0 := by
  induction l with
  | nil => simp [cntT]
  | cons t l ih =>
    have hp : posT l := fun x hx => h x (List.mem_cons_of_mem _ hx)
    have h1 := h t (List.mem_cons_self ..)
    have h2 := pos_least hp c
    rw [cntT_cons]
    by_cases e : t.1 = c
    · rw [if_pos e]
      exact ⟨fun _ => by omega, fun _ => ⟨t, List.mem_cons_self .., e⟩⟩
    · rw [if_neg e, Int.zero_add, ← ih hp]
      constructor
      · rintro ⟨x, hx, rfl⟩
        rcases List.mem_cons.1 hx with rfl | hx
        · exact absurd rfl e
        · exact ⟨x, hx, rfl⟩
      · rintro ⟨x, hx, rfl⟩
        exact ⟨x, List.mem_cons_of_mem _ hx, rfl⟩
theorem mem_same {l m : List Tal} (hl : posT l) (hm : posT m) (h : ∀ c, cntT l c = cntT m c) (c : Cel) : (∃ t ∈ l, t.1 = c) ↔ ∃ t ∈ m, t.1 = c := by
  rw [mem_cnt hl, mem_cnt hm, h]
/-- a sum under way -/
def stS (hit : Bool) (s : Int) : Cel := if hit = true then ⟨2, wrap64 s, ⟨#[]⟩⟩ else noCel
def wI (c : Cel) : Int := if c.k = 2 then c.n else 0
theorem wrap_sum (a b : Int) : wrap64 (wrap64 a + wrap64 b) = wrap64 (a + b) := by unfold wrap64; omega
theorem sum_step {hit : Bool} {s : Int} (h : hit = false → s = 0) (t : Tal) : sumT (stS hit s) t = stS (hit || decide (t.1.k = 2)) (s + wI t.1 * t.2) ∧ ((hit || decide (t.1.k = 2)) = false → s + wI t.1 * t.2 = 0) := by
  unfold sumT wI
  by_cases e : t.1.k = 2
  · rw [if_pos e, if_pos e]
    refine ⟨?_, by simp [e]⟩
    cases hit with
    | true => simp only [stS, if_true, Bool.true_or]; rw [wrap_sum]
    | false =>
      rw [h rfl]
      simp only [stS, e, decide_true, Bool.or_true, if_true, Bool.false_eq_true, if_false]
      show (⟨2, wrap64 (0 + wrap64 (t.1.n * t.2)), ⟨#[]⟩⟩ : Cel) = _
      have := wrap_sum 0 (t.1.n * t.2)
      rw [show wrap64 0 = 0 from by unfold wrap64; omega] at this
      rw [this]
  · rw [if_neg e, if_neg e]
    simp only [e, decide_false, Bool.or_false, Int.zero_mul, Int.add_zero]
    exact ⟨trivial, h⟩
theorem sum_fold : ∀ (l : List Tal) (hit : Bool) (s : Int), (hit = false → s = 0) → l.foldl sumT (stS hit s) = stS (hit || l.any fun t => decide (t.1.k = 2)) (s + wT wI l)
  | [], hit, s, _ => by simp [wT]
  | t :: l, hit, s, h => by
    obtain ⟨h1, h2⟩ := sum_step h t
    rw [List.foldl_cons, h1, sum_fold l _ _ h2, wT_cons, List.any_cons, Bool.or_assoc, Int.add_assoc]
theorem any_same {l m : List Tal} (hl : posT l) (hm : posT m) (h : ∀ c, cntT l c = cntT m c) (f : Cel → Bool) : (l.any fun t => f t.1) = m.any fun t => f t.1 := by
  rw [Bool.eq_iff_iff, List.any_eq_true, List.any_eq_true]
  constructor
  · rintro ⟨t, ht, hf⟩
    obtain ⟨u, hu, e⟩ := (mem_same hl hm h t.1).1 ⟨t, ht, rfl⟩
    exact ⟨u, hu, by rw [e]; exact hf⟩
  · rintro ⟨t, ht, hf⟩
    obtain ⟨u, hu, e⟩ := (mem_same hl hm h t.1).2 ⟨t, ht, rfl⟩
    exact ⟨u, hu, by rw [e]; exact hf⟩
theorem sum_same {l m : List Tal} (hl : posT l) (hm : posT m) (h : ∀ c, cntT l c = cntT m c) : l.foldl sumT noCel = m.foldl sumT noCel := by
  have e : noCel = stS false 0 := rfl
  rw [e, sum_fold l _ _ (fun _ => rfl), sum_fold m _ _ (fun _ => rfl), wT_same wI _ l m (Nat.le_refl _) h, any_same hl hm h fun c => decide (c.k = 2)]
theorem back_swap {a b : Cel} (ha : fineC a) (hb : fineC b) (h : cmpC a b = -1) : cmpC b a = 1 := by
  rcases cmpC_in b a with e | e | e
  · exfalso
    have := cells_more ha hb ha (by omega) (by omega)
    rw [cells_own ha] at this
    omega
  · exfalso
    rw [cells_same hb ha e, cells_own ha] at h
    omega
  · exact e
theorem front_swap {a b : Cel} (ha : fineC a) (hb : fineC b) (h : cmpC a b = 1) : cmpC b a = -1 := by
  have := cells_swap ha hb (by omega)
  rcases cmpC_in b a with e | e | e <;> omega
theorem way_more {way : Int} (hw : way = -1 ∨ way = 1) {a b c : Cel} (ha : fineC a) (hb : fineC b) (hc : fineC c) (h1 : cmpC a b = way) (h2 : cmpC b c = way) : cmpC a c = way := by
  rcases hw with rfl | rfl
  · have := cells_more ha hb hc (by omega) (by omega)
    rcases cmpC_in a c with e | e | e <;> omega
  · have h3 := front_swap ha hb h1
    have h4 := front_swap hb hc h2
    have := cells_more hc hb ha (by omega) (by omega)
    refine back_swap hc ha ?_
    rcases cmpC_in c a with e | e | e <;> omega
theorem way_same {way : Int} (hw : way = -1 ∨ way = 1) {a b : Cel} (ha : fineC a) (hb : fineC b) (h1 : cmpC a b ≠ way) (h2 : cmpC b a ≠ way) : a = b := by
  rcases cmpC_in a b with e | e | e
  · have := back_swap ha hb e
    rcases hw with rfl | rfl
    · exact absurd e h1
    · exact absurd this h2
  · exact cells_same ha hb e
  · have := front_swap ha hb e
    rcases hw with rfl | rfl
    · exact absurd this h2
    · exact absurd e h1
/-- the outermost of cells: none of them that is not Null goes beyond it -/
def isOut (way : Int) (S : Cel → Prop) (c : Cel) : Prop := ((∀ d, S d → d.k = 0) ∧ c = noCel) ∨ (S c ∧ c.k ≠ 0 ∧ ∀ d, S d → d.k ≠ 0 → cmpC d c ≠ way)
theorem out_one {way : Int} (hw : way = -1 ∨ way = 1) {S : Cel → Prop} (hf : ∀ c, S c → fineC c) {a b : Cel} (ha : isOut way S a) (hb : isOut way S b) : a = b := by
  rcases ha with ⟨ha, ea⟩ | ⟨ha, ka, ma⟩
  · rcases hb with ⟨hb, eb⟩ | ⟨hb, kb, mb⟩
    · rw [ea, eb]
    · exact absurd (ha b hb) kb
  · rcases hb with ⟨hb, eb⟩ | ⟨hb, kb, mb⟩
    · exact absurd (hb a ha) ka
    · exact way_same hw (hf a ha) (hf b hb) (mb a ha ka) (ma b hb kb)
theorem out_step {way : Int} (hw : way = -1 ∨ way = 1) {S : Cel → Prop} (hf : ∀ c, S c → fineC c) {b : Cel} (h : isOut way S b) (t : Tal) (ht : fineC t.1) : isOut way (fun c => S c ∨ c = t.1) (outT way b t) := by
  unfold outT
  by_cases e0 : t.1.k = 0
  · rw [if_pos e0]
    rcases h with ⟨h, e⟩ | ⟨h, k, m⟩
    · exact .inl ⟨fun d hd => hd.elim (h d) (fun e1 => by rw [e1]; exact e0), e⟩
    · exact .inr ⟨.inl h, k, fun d hd hk => hd.elim (fun hd => m d hd hk) (fun e1 => absurd (by rw [e1]; exact e0) hk)⟩
  · rw [if_neg e0]
    rcases h with ⟨h, e⟩ | ⟨h, k, m⟩
    · rw [if_pos (.inl (by rw [e]; rfl))]
      refine .inr ⟨.inr rfl, e0, fun d hd hk => hd.elim (fun hd => absurd (h d hd) hk) (fun e1 => ?_)⟩
      rw [e1, cells_own ht]
      rcases hw with rfl | rfl <;> decide
    · by_cases e1 : cmpC t.1 b = way
      · rw [if_pos (.inr e1)]
        refine .inr ⟨.inr rfl, e0, fun d hd hk => hd.elim (fun hd e2 => m d hd hk (way_more hw (hf d hd) ht (hf b h) e2 e1)) (fun e2 => ?_)⟩
        rw [e2, cells_own ht]
        rcases hw with rfl | rfl <;> decide
      · rw [if_neg (fun z => z.elim k e1)]
        exact .inr ⟨.inl h, k, fun d hd hk => hd.elim (fun hd => m d hd hk) (fun e2 => by rw [e2]; exact e1)⟩
theorem out_fold {way : Int} (hw : way = -1 ∨ way = 1) : ∀ (l : List Tal) (S : Cel → Prop) (b : Cel), (∀ c, S c → fineC c) → (∀ t ∈ l, fineC t.1) → isOut way S b → isOut way (fun c => S c ∨ ∃ t ∈ l, t.1 = c) (l.foldl (outT way) b)
  | [], S, b, _, _, h => by
    have : (fun c => S c ∨ ∃ t ∈ ([] : List Tal), t.1 = c) = S := by funext c; simp
    rw [this]; exact h
  | t :: l, S, b, hS, hl, h => by
    have ht := hl t (List.mem_cons_self ..)
    have := out_fold hw l (fun c => S c ∨ c = t.1) (outT way b t) (fun c hc => hc.elim (hS c) (fun e => by rw [e]; exact ht)) (fun x hx => hl x (List.mem_cons_of_mem _ hx)) (out_step hw hS h t ht)
    rw [List.foldl_cons]
    have e : (fun c => S c ∨ ∃ x ∈ t :: l, x.1 = c) = fun c => (S c ∨ c = t.1) ∨ ∃ x ∈ l, x.1 = c := by
      funext c
      simp only [List.mem_cons, eq_iff_iff]
      constructor
      · rintro (h | ⟨x, rfl | hx, e⟩)
        · exact .inl (.inl h)
        · exact .inl (.inr e.symm)
        · exact .inr ⟨x, hx, e⟩
      · rintro ((h | e) | ⟨x, hx, e⟩)
        · exact .inl h
        · exact .inr ⟨t, .inl rfl, e.symm⟩
        · exact .inr ⟨x, .inr hx, e⟩
    rw [e]
    exact this
theorem out_same {way : Int} (hw : way = -1 ∨ way = 1) {l m : List Tal} (hl : posT l) (hm : posT m) (fl : ∀ t ∈ l, fineC t.1) (fm : ∀ t ∈ m, fineC t.1) (h : ∀ c, cntT l c = cntT m c) : l.foldl (outT way) noCel = m.foldl (outT way) noCel := by
  have h0 : isOut way (fun _ => False) noCel := .inl ⟨fun d hd => hd.elim, rfl⟩
  have a := out_fold hw l _ noCel (fun c hc => hc.elim) fl h0
  have b := out_fold hw m _ noCel (fun c hc => hc.elim) fm h0
  have e : (fun c => False ∨ ∃ t ∈ l, t.1 = c) = fun c => False ∨ ∃ t ∈ m, t.1 = c := by
    funext c
    simp only [false_or, eq_iff_iff]
    exact mem_same hl hm h c
  rw [e] at a
  exact out_one hw (fun c hc => hc.elim (fun k => k.elim) (fun ⟨t, ht, e⟩ => by rw [← e]; exact fm t ht)) a b
/-- bags in which each cell stands as often have the same figures -/
theorem fig_same (fn n : Int) {l m : List Tal} (hl : posT l) (hm : posT m) (fl : ∀ t ∈ l, fineC t.1) (fm : ∀ t ∈ m, fineC t.1) (h : ∀ c, cntT l c = cntT m c) : bt.figT fn n l = bt.figT fn n m := by
  unfold bt.figT
  rw [sum_same hl hm h, out_same (.inl rfl) hl hm fl fm h, out_same (.inr rfl) hl hm fl fm h]
end Go.Proofs.YtbfbgdinhiglaaaGreat.gr
/- Groups that hold just what a view holds: their rows are the view's, grouped. -/
namespace Go.Proofs.YtbfbgdinhiglaaaGreat.gr
open Go.ChangeShapes Go.WideShapes Go.ChangeAt Go.RowKit
open vl pl bt
set_option linter.unusedVariables false
set_option linter.unusedSimpArgs false
/-- groups and a view: as many rows of each key, as many of each cell -/
structure likeG (p : Pln) (gs : List Grp) (v : List ch.Cnt) : Prop where
  cnt : ∀ key, cntG gs key = sumV (fun r => decide (pickR r p.group = key)) v
  tal : ∀ j, j < p.aggs.length → (p.aggs.getD j (0, 0)).1 ≠ 1 → ∀ key c, talG gs j key c = sumV (fun r => decide (pickR r p.group = key ∧ r.getD (p.aggs.getD j (0, 0)).2.toNat default = c)) v
theorem sumV_least {Q : List Cel → Bool} : ∀ {v : List ch.Cnt}, (∀ c ∈ v, 1 ≤ c.n) → 0 ≤ sumV Q v
  | [], _ => by simp [sumV]
  | c :: v, h => by
    have h1 := h c (List.mem_cons_self ..)
    have h2 := sumV_least (Q := Q) (fun x hx => h x (List.mem_cons_of_mem _ hx) : ∀ x ∈ v, 1 ≤ x.n)
    rw [sumV_cons]
    split <;> omega
theorem sumV_some {Q : List Cel → Bool} : ∀ {v : List ch.Cnt}, (∀ c ∈ v, 1 ≤ c.n) → (sumV Q v ≠ 0 ↔ ∃ c ∈ v, Q c.r = true)
  | [], _ => by simp [sumV]
  | c :: v, h => by
    have h1 := h c (List.mem_cons_self ..)
    have hv : ∀ x ∈ v, 1 ≤ x.n := fun x hx => h x (List.mem_cons_of_mem _ hx)
    have h2 := sumV_least (Q := Q) hv
    have ih := sumV_some (Q := Q) hv
    rw [sumV_cons]
    by_cases e : Q c.r = true
    · rw [if_pos e]
      exact ⟨fun _ => ⟨c, List.mem_cons_self .., e⟩, fun _ => by omega⟩
    · rw [if_neg e, Int.zero_add, ih]
      constructor
      · rintro ⟨x, hx, k⟩
        exact ⟨x, List.mem_cons_of_mem _ hx, k⟩
      · rintro ⟨x, hx, k⟩
        rcases List.mem_cons.1 hx with rfl | hx
        · exact absurd k e
        · exact ⟨x, hx, k⟩
/-- a key that a right group has -/
theorem cnt_some {p : Pln} {gs : List Grp} (h : gsR p gs) (key : List Cel) : cntG gs key ≠ 0 ↔ ∃ g ∈ gs, g.row = key := by
  constructor
  · intro hn
    refine Classical.byContradiction fun k => hn ?_
    exact sumG_zero fun g hg => if_neg fun e => k ⟨g, hg, e⟩
  · rintro ⟨g, hg, rfl⟩
    obtain ⟨i, hi, e⟩ := List.getElem_of_mem hg
    have eg : gs.getD i default = g := by rw [List.getD_eq_getElem?_getD, List.getElem?_eq_getElem hi, e]; rfl
    have := own_sum (fun g hg => (h.each g hg).1.row) h.up hi (fun g => g.n)
    rw [eg] at this
    unfold cntG
    rw [this]
    have := (h.each g hg).2.1
    omega
/-- two lists that rise by the same order and hold the same are one -/
theorem rise_same {α : Type} {R : α → α → Prop} (irr : ∀ a, ¬R a a) (tr : ∀ a b c, R a b → R b c → R a c) : ∀ {l m : List α}, l.Pairwise R → m.Pairwise R → (∀ x, x ∈ l ↔ x ∈ m) → l = m
  | [], [], _, _, _ => rfl
  | [], b :: m, _, _, h => absurd ((h b).2 (List.mem_cons_self ..)) List.not_mem_nil
  | a :: l, [], _, _, h => absurd ((h a).1 (List.mem_cons_self ..)) List.not_mem_nil
  | a :: l, b :: m, hl, hm, h => by
    rw [List.pairwise_cons] at hl hm
    have e : a = b := by
      rcases List.mem_cons.1 ((h a).1 (List.mem_cons_self ..)) with e | ha
      · exact e
      · rcases List.mem_cons.1 ((h b).2 (List.mem_cons_self ..)) with e | hb
        · exact e.symm
        · exact absurd (tr _ _ _ (hl.1 b hb) (hm.1 a ha)) (irr a)
    subst e
    rw [rise_same irr tr hl.2 hm.2 fun x => ?_]
    constructor
    · intro hx
      rcases List.mem_cons.1 ((h x).1 (List.mem_cons_of_mem _ hx)) with e | hx2
      · rw [e] at hx; exact absurd (hl.1 a hx) (irr a)
      · exact hx2
    · intro hx
      rcases List.mem_cons.1 ((h x).2 (List.mem_cons_of_mem _ hx)) with e | hx2
      · rw [e] at hx; exact absurd (hm.1 a hx) (irr a)
      · exact hx2
theorem bytes_before : ∀ {a b : List UInt8}, Lib.compareBytes a b < 0 → a < b
  | [], [], h => absurd h (by decide)
  | [], b :: y, _ => List.nil_lt_cons b y
  | a :: x, [], h => absurd h (by simp [Lib.compareBytes])
  | a :: x, b :: y, h => by
    rw [Lib.compareBytes] at h
    by_cases h1 : a < b
    · exact List.Lex.rel h1
    · rw [if_neg h1] at h
      by_cases h2 : b < a
      · rw [if_pos h2] at h; exact absurd h (by decide)
      · rw [if_neg h2] at h
        have e : a = b := UInt8.le_antisymm (UInt8.not_lt.1 h2) (UInt8.not_lt.1 h1)
        subst e
        exact List.Lex.cons (bytes_before h)
theorem keys_same {p : Pln} {gs : List Grp} {v : List ch.Cnt} (h0 : planErr p = 0) (h : gsR p gs) (hl : likeG p gs v) (hv : ∀ c ∈ v, 1 ≤ c.n) (hr : ∀ c ∈ v, rowF p c.r) : gs.map (fun g => encR g.row) = (gkeys p v).map (·.1) := by
  refine rise_same (R := fun a b : List UInt8 => a < b) (fun a => List.lt_irrefl a) (fun a b c => List.lt_trans) ?_ ?_ (fun k => ?_)
  · have hup := h.up
    unfold upG at hup
    rw [List.pairwise_map] at hup ⊢
    refine hup.imp_of_mem fun {a b} ha hb hc => ?_
    rw [← cmpB_rows a.row b.row (h.each a ha).1.row (h.each b hb).1.row] at hc
    exact bytes_before hc
  · have hup := gkeys_up p v
    unfold ch.rising at hup
    rw [List.pairwise_map]
    refine hup.imp fun {a b} hc => ?_
    rw [ch.before_lt, decide_eq_true_eq] at hc
    exact hc
  · have hm := gkeys_mem p v k
    have e : k ∈ (gkeys p v).map (·.1) ↔ ∃ q ∈ gkeys p v, q.1 = k := List.mem_map
    rw [e, hm, List.mem_map]
    constructor
    · rintro ⟨g, hg, rfl⟩
      have h1 := (cnt_some h g.row).2 ⟨g, hg, rfl⟩
      rw [hl.cnt, sumV_some hv] at h1
      obtain ⟨c, hc, e⟩ := h1
      refine ⟨c, hc, ?_⟩
      unfold keyG headG
      rw [of_decide_eq_true e]
    · rintro ⟨c, hc, rfl⟩
      have h1 : sumV (fun r => decide (pickR r p.group = pickR c.r p.group)) v ≠ 0 := (sumV_some hv).2 ⟨c, hc, by simp⟩
      rw [← hl.cnt, cnt_some h] at h1
      obtain ⟨g, hg, e⟩ := h1
      exact ⟨g, hg, by rw [e]; rfl⟩
theorem ofKey_is {p : Pln} {v : List ch.Cnt} {key : List Cel} (h0 : planErr p = 0) (hk : ∀ z ∈ key, fineC z) (hr : ∀ c ∈ v, rowF p c.r) : ofKey (keyG p) v (encR key) = v.filter fun c => decide (pickR c.r p.group = key) := by
  unfold ofKey
  refine List.filter_congr fun c hc => ?_
  rw [Bool.eq_iff_iff]
  simp only [beq_iff_eq, decide_eq_true_eq]
  exact ⟨fun e => encR_inj (key_fine h0 (hr c hc)).1 hk e, fun e => by unfold keyG headG; rw [e]⟩
theorem sum_filter (Q : List Cel → Bool) : ∀ v : List ch.Cnt, ((v.filter fun c => Q c.r).map (·.n)).sum = sumV Q v
  | [] => rfl
  | c :: v => by
    rw [sumV_cons, List.filter_cons]
    by_cases e : Q c.r = true
    · rw [if_pos e, if_pos e, List.map_cons, List.sum_cons, sum_filter Q v]
    · rw [if_neg e, if_neg e, Int.zero_add, sum_filter Q v]
theorem wrap_fold : ∀ (v : List ch.Cnt) (s : Int), v.foldl (fun s c => wrap64 (s + c.n)) (wrap64 s) = wrap64 (s + (v.map (·.n)).sum)
  | [], s => by simp
  | c :: v, s => by
    have e : wrap64 (wrap64 s + c.n) = wrap64 (s + c.n) := by unfold wrap64; omega
    rw [List.foldl_cons, e, wrap_fold v (s + c.n), List.map_cons, List.sum_cons, Int.add_assoc]
theorem cntS_is (v : List ch.Cnt) : cntS v = wrap64 ((v.map (·.n)).sum) := by
  unfold cntS
  have := wrap_fold v 0
  rw [show wrap64 0 = 0 from by unfold wrap64; omega, Int.zero_add] at this
  exact this
theorem bag_cnt (col : Nat) (c : Cel) (Q : List Cel → Bool) : ∀ v : List ch.Cnt, cntT (bagOf col (v.filter fun c => Q c.r)) c = sumV (fun r => Q r && decide (r.getD col default = c)) v
  | [] => rfl
  | d :: v => by
    rw [sumV_cons, List.filter_cons]
    by_cases e : Q d.r = true
    · rw [if_pos e]
      have h1 : bagOf col (d :: v.filter fun c => Q c.r) = (d.r.getD col default, d.n) :: bagOf col (v.filter fun c => Q c.r) := rfl
      rw [h1, cntT_cons, bag_cnt col c Q v, e]
      simp only [Bool.true_and, decide_eq_true_eq]
    · rw [if_neg e, bag_cnt col c Q v]
      have h2 : Q d.r = false := by simpa using e
      rw [h2]
      simp
theorem row_same {p : Pln} {gs : List Grp} {v : List ch.Cnt} (h0 : planErr p = 0) (hgr : p.grouped = true) (h : gsR p gs) (hl : likeG p gs v) (hv : ∀ c ∈ v, 1 ≤ c.n) (hr : ∀ c ∈ v, rowF p c.r) {g : Grp} (hg : g ∈ gs) : rowC p g = groupRow p v (encR g.row) := by
  have hgf := (h.each g hg).1
  have hn := (h.each g hg).2
  obtain ⟨i, hi, ei⟩ := List.getElem_of_mem hg
  have eg : gs.getD i default = g := by rw [List.getD_eq_getElem?_getD, List.getElem?_eq_getElem hi, ei]; rfl
  have hF : ∀ g ∈ gs, ∀ z ∈ g.row, fineC z := fun g hg => (h.each g hg).1.row
  have eu := ofKey_is h0 hgf.row hr
  obtain ⟨u, hu⟩ : ∃ z, ofKey (keyG p) v (encR g.row) = z := ⟨_, rfl⟩
  have eu2 : u = v.filter fun c => decide (pickR c.r p.group = g.row) := by rw [← hu, eu]
  have hcn : cntG gs g.row = g.n := by
    have := own_sum hF h.up hi (fun g => g.n)
    rw [eg] at this
    exact this
  have hS : (u.map (·.n)).sum = g.n := by rw [eu2, sum_filter (fun r => decide (pickR r p.group = g.row)), ← hl.cnt, hcn]
  have hC : cntS u = g.n := by rw [cntS_is, hS]; unfold wrap64; omega
  have hne : u ≠ [] := fun e => by rw [e] at hS; simp at hS; omega
  have hhead : headR p v (encR g.row) = g.row := by
    unfold headR
    rw [hu]
    cases hcs : u with
    | nil => exact absurd hcs hne
    | cons c u' =>
      have : c ∈ v.filter fun c => decide (pickR c.r p.group = g.row) := by rw [← eu2, hcs]; exact List.mem_cons_self ..
      exact of_decide_eq_true (List.mem_filter.1 this).2
  unfold rowC groupRow
  rw [hhead]
  have hfig : figsG p g = figsR p v (encR g.row) := by
    unfold figsG figsR
    rw [hu]
    refine List.ext_getElem (by simp) fun j hj1 hj2 => ?_
    have hj : j < p.aggs.length := by simpa using hj1
    rw [List.getElem_map, List.getElem_map, List.getElem_range]
    have ea : p.aggs.getD j (0, 0) = p.aggs[j] := by rw [List.getD_eq_getElem?_getD, List.getElem?_eq_getElem hj]; rfl
    rw [← ea]
    rw [← figT_of, hC]
    by_cases hn1 : (p.aggs.getD j (0, 0)).1 = 1
    · unfold bt.figT
      rw [if_pos hn1, if_pos hn1]
    · have hb := bag_at hgf hj hn1
      refine fig_same _ _ (fun t ht => (hb.fine t ht).2.2) (fun t ht => ?_) (fun t ht => (hb.fine t ht).1) (fun t ht => ?_) (fun c => ?_)
      · obtain ⟨d, hd, rfl⟩ := List.mem_map.1 ht
        rw [eu2] at hd
        exact hv d (List.mem_filter.1 hd).1
      · obtain ⟨d, hd, rfl⟩ := List.mem_map.1 ht
        rw [eu2] at hd
        exact (col_right h0 hgr (hr d (List.mem_filter.1 hd).1) hj hn1).1
      · have h1 := own_sum hF h.up hi (fun g => cntT (g.bags.getD j []) c)
        rw [eg] at h1
        have h2 := hl.tal j hj hn1 g.row c
        unfold talG at h2
        rw [h1] at h2
        rw [h2, eu2, bag_cnt _ _ (fun r => decide (pickR r p.group = g.row))]
        simp only [Bool.decide_and]
  rw [hfig]
/-- H4: the groups' rows are the view's, grouped -/
theorem view_same {p : Pln} {gs : List Grp} {v : List ch.Cnt} (h0 : planErr p = 0) (hgr : p.grouped = true) (h : gsR p gs) (hl : likeG p gs v) (hv : ∀ c ∈ v, 1 ≤ c.n) (hr : ∀ c ∈ v, rowF p c.r) : gs.map (rowC p) = groupOut p v := by
  unfold groupOut
  have e : (gkeys p v).map (fun q => groupRow p v q.1) = ((gkeys p v).map (·.1)).map (groupRow p v) := by rw [List.map_map]; rfl
  rw [e, ← keys_same h0 h hl hv hr, List.map_map]
  exact List.map_congr_left fun g hg => row_same h0 hgr h hl hv hr hg
end Go.Proofs.YtbfbgdinhiglaaaGreat.gr
