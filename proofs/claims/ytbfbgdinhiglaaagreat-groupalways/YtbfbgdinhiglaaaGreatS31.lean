import Derived.Test.YtbfbgdinhiglaaaGreatS28
import Derived.Test.YtbfbgdinhiglaaaGreatGrpToldA
import Derived.Test.YtbfbgdinhiglaaaGreatS17
import Derived.Test.YtbfbgdinhiglaaaGreatMgChgD
import Derived.Test.YtbfbgdinhiglaaaGreatS16
import Derived.Test.YtbfbgdinhiglaaaGreatS18
/- What is told makes the one view out of the other. -/
namespace Go.Proofs.YtbfbgdinhiglaaaGreat.gr
open Go.ChangeShapes Go.WideShapes Go.ChangeAt Go.RowKit
open vl pl bt
set_option linter.unusedVariables false
set_option linter.unusedSimpArgs false
/-- rows, once each -/
def kvR (S : List (List Cel)) : ch.KV := S.map fun r => (encR r, 1)
structure setR (S : List (List Cel)) : Prop where
  ok : ∀ r ∈ S, rowOk r
  up : S.Pairwise fun a b => cmpRows a b < 0
  len : S.length ≤ 4096
theorem good_kvR {S : List (List Cel)} (h : setR S) : ch.good (kvR S) := by
  refine ⟨?_, by simpa [kvR] using h.len, fun q hq => ?_, fun q hq => ?_⟩
  · unfold ch.rising kvR
    rw [List.pairwise_map]
    refine h.up.imp_of_mem fun {a b} ha hb hc => ?_
    rw [← cmpB_rows a b (h.ok a ha).2 (h.ok b hb).2] at hc
    rw [ch.before_lt, decide_eq_true_eq]
    exact bytes_before hc
  · obtain ⟨r, hr, rfl⟩ := List.mem_map.1 hq
    exact ⟨Int.le_refl 1, by show (1 : Int) ≤ 1073741824; decide⟩
  · obtain ⟨r, hr, rfl⟩ := List.mem_map.1 hq
    exact ⟨r, h.ok r hr, rfl⟩
theorem get_in {S : List (List Cel)} (h : setR S) {r : List Cel} (hr : r ∈ S) : ch.getK (kvR S) (encR r) = 1 := ch.getK_of (good_kvR h).up (p := (encR r, 1)) (List.mem_map.2 ⟨r, hr, rfl⟩)
theorem get_out {S : List (List Cel)} {k : List UInt8} (hr : ∀ r ∈ S, encR r ≠ k) : ch.getK (kvR S) k = 0 := ch.getK_none fun q hq => by
  obtain ⟨r, hr2, rfl⟩ := List.mem_map.1 hq
  exact hr r hr2
theorem get_more {B A : List (List Cel)} {b : List Cel} (h1 : setR (B ++ A)) (h2 : setR (B ++ b :: A)) (k : List UInt8) : ch.getK (kvR (B ++ b :: A)) k = ch.getK (kvR (B ++ A)) k + if k = encR b then 1 else 0 := by
  have hb : b ∈ B ++ b :: A := List.mem_append.2 (.inr (List.mem_cons_self ..))
  have hsub : ∀ r ∈ B ++ A, r ∈ B ++ b :: A := fun r hr => by
    rcases List.mem_append.1 hr with h | h
    · exact List.mem_append.2 (.inl h)
    · exact List.mem_append.2 (.inr (List.mem_cons_of_mem _ h))
  have hup := h2.up
  rw [List.pairwise_append, List.pairwise_cons] at hup
  have hz := rows_own (h2.ok b hb).2
  have hne : ∀ r ∈ B ++ A, encR r ≠ encR b := fun r hr e => by
    have e2 := encR_inj (h1.ok r hr).2 (h2.ok b hb).2 e
    rcases List.mem_append.1 hr with h | h
    · have := hup.2.2 r h b (List.mem_cons_self ..)
      rw [e2, hz] at this
      omega
    · have := hup.2.1.1 r h
      rw [e2, hz] at this
      omega
  by_cases e : k = encR b
  · rw [if_pos e, e, get_in h2 hb, get_out hne]; rfl
  · rw [if_neg e]
    by_cases hin : ∃ r ∈ B ++ A, encR r = k
    · obtain ⟨r, hr, rfl⟩ := hin
      rw [get_in h1 hr, get_in h2 (hsub r hr)]; rfl
    · rw [get_out fun r hr e1 => hin ⟨r, hr, e1⟩, get_out fun r hr e1 => ?_]
      · rfl
      · rcases List.mem_append.1 hr with h | h
        · exact hin ⟨r, List.mem_append.2 (.inl h), e1⟩
        · rcases List.mem_cons.1 h with rfl | h
          · exact e e1.symm
          · exact hin ⟨r, List.mem_append.2 (.inr h), e1⟩
theorem get_new {B A : List (List Cel)} {b : List Cel} (h1 : setR (B ++ A)) (h2 : setR (B ++ b :: A)) : ch.getK (kvR (B ++ A)) (encR b) = 0 := by
  have := get_more h1 h2 (encR b)
  rw [if_pos rfl, get_in h2 (List.mem_append.2 (.inr (List.mem_cons_self ..)))] at this
  omega
theorem step_ins {B A : List (List Cel)} {b : List Cel} (h1 : setR (B ++ A)) (h2 : setR (B ++ b :: A)) : ch.addE (kvR (B ++ A)) (encR b) 1 = 0 ∧ ch.addV (kvR (B ++ A)) (encR b) 1 = kvR (B ++ b :: A) := by
  have h0 := get_new h1 h2
  have hl := h2.len
  have he : ch.addE (kvR (B ++ A)) (encR b) 1 = 0 := by
    unfold ch.addE
    rw [h0, if_neg (by decide), if_neg (by decide), if_neg (by decide), if_neg]
    rintro ⟨_, hk⟩
    simp only [kvR, List.length_map, List.length_append, List.length_cons] at hk hl
    omega
  refine ⟨he, ch.good_ext (ch.good_add (good_kvR h1) (h2.ok b (List.mem_append.2 (.inr (List.mem_cons_self ..)))) 1) (good_kvR h2) fun k => ?_⟩
  rw [ch.addV_get he, get_more h1 h2]
theorem step_del {B A : List (List Cel)} {b : List Cel} (h1 : setR (B ++ A)) (h2 : setR (B ++ b :: A)) : ch.addE (kvR (B ++ b :: A)) (encR b) (-1) = 0 ∧ ch.addV (kvR (B ++ b :: A)) (encR b) (-1) = kvR (B ++ A) := by
  have hb : b ∈ B ++ b :: A := List.mem_append.2 (.inr (List.mem_cons_self ..))
  have he : ch.addE (kvR (B ++ b :: A)) (encR b) (-1) = 0 := by
    unfold ch.addE
    rw [get_in h2 hb, if_neg (by decide), if_neg (by decide), if_pos (by decide)]
  refine ⟨he, ch.good_ext (ch.good_add (good_kvR h2) (h2.ok b hb) (-1)) (good_kvR h1) fun k => ?_⟩
  rw [ch.addV_get he, get_more h1 h2]
  split <;> omega
/-- changes that lead from one to the other, no error on the way -/
def runs (kv : ch.KV) (l : List ch.Chg) (kv' : ch.KV) : Prop := (∀ i, i < l.length → ch.errK kv l i = 0) ∧ ch.atK kv l l.length = kv'
theorem runs_nil (kv : ch.KV) : runs kv [] kv := ⟨fun i hi => absurd hi (Nat.not_lt_zero _), rfl⟩
theorem runs_cons {kv kv1 kv' : ch.KV} {c : ch.Chg} {l : List ch.Chg} (h1 : ch.addE kv (encR c.r) (ch.moreOf c.k) = 0) (h2 : ch.addV kv (encR c.r) (ch.moreOf c.k) = kv1) (h : runs kv1 l kv') : runs kv (c :: l) kv' := by
  subst h2
  refine ⟨fun i hi => ?_, h.2⟩
  cases i with
  | zero => exact h1
  | succ i => exact h.1 i (by simpa using hi)
def upK (size : Nat) (X : List (List Cel)) : Prop := X.Pairwise fun a b => cmpRows (a.take size) (b.take size) < 0
theorem take_lt : ∀ (n : Nat) {a b : List Cel}, n ≤ a.length → n ≤ b.length → cmpRows (a.take n) (b.take n) < 0 → cmpRows a b < 0
  | 0, a, b, _, _, h => absurd h (by rw [List.take_zero, List.take_zero]; decide)
  | n + 1, [], b, h1, _, _ => absurd h1 (by simp)
  | n + 1, a :: x, [], _, h2, _ => absurd h2 (by simp)
  | n + 1, a :: x, b :: y, h1, h2, h => by
    rw [List.take_succ_cons, List.take_succ_cons, cmpRows] at h
    rw [cmpRows]
    by_cases e : cmpC a b = 0
    · rw [e] at h ⊢
      simp only [ne_eq, not_true_eq_false, if_false, if_true] at h ⊢
      exact take_lt n (by simpa using h1) (by simpa using h2) h
    · simp only [ne_eq, e, not_false_eq_true, if_true, if_false] at h ⊢
      exact h
theorem told_runs (size : Nat) (P : List Cel → Prop) (hP : ∀ x, P x → rowOk x ∧ size ≤ x.length) (hN : ∀ X, upK size X → (∀ x ∈ X, P x) → X.length ≤ 4096) : ∀ (was now B : List (List Cel)), upK size (B ++ was) → upK size (B ++ now) → (∀ x ∈ B ++ was, P x) → (∀ x ∈ B ++ now, P x) → runs (kvR (B ++ was)) (toldR size was now) (kvR (B ++ now)) := by
  have hset : ∀ X, upK size X → (∀ x ∈ X, P x) → setR X := fun X hu hp => ⟨fun r hr => (hP r (hp r hr)).1, hu.imp_of_mem fun {a b} ha hb hc => take_lt size (hP a (hp a ha)).2 (hP b (hp b hb)).2 hc, hN X hu hp⟩
  have hfine : ∀ x, P x → ∀ z ∈ x.take size, fineC z := fun x hx z hz => (hP x hx).1.2 z (List.mem_of_mem_take hz)
  have hcut : ∀ {B A : List (List Cel)} {a : List Cel}, upK size (B ++ a :: A) → upK size (B ++ A) := fun h => h.sublist (List.Sublist.append (List.Sublist.refl _) (List.sublist_cons_self ..))
  have hcutP : ∀ {B A : List (List Cel)} {a : List Cel}, (∀ x ∈ B ++ a :: A, P x) → ∀ x ∈ B ++ A, P x := fun h x hx => h x (by
    rcases List.mem_append.1 hx with k | k
    · exact List.mem_append.2 (.inl k)
    · exact List.mem_append.2 (.inr (List.mem_cons_of_mem _ k)))
  have hmid : ∀ {B A : List (List Cel)} {a : List Cel}, (∀ x ∈ B ++ a :: A, P x) → P a := fun h => h _ (List.mem_append.2 (.inr (List.mem_cons_self ..)))
  have happ : ∀ (B A : List (List Cel)) (a : List Cel), B ++ a :: A = (B ++ [a]) ++ A := fun B A a => by simp
  have hput : ∀ {B A : List (List Cel)} {b : List Cel}, (∀ x ∈ B ++ A, P x) → P b → ∀ x ∈ B ++ b :: A, P x := fun h hb x hx => by
    rcases List.mem_append.1 hx with k | k
    · exact h x (List.mem_append.2 (.inl k))
    · rcases List.mem_cons.1 k with rfl | k
      · exact hb
      · exact h x (List.mem_append.2 (.inr k))
  intro was now
  induction was, now using toldR.induct size with
  | case1 => intro B h1 h2 p1 p2; rw [toldR]; exact runs_nil _
  | case2 a was ih =>
    intro B h1 h2 p1 p2
    rw [toldR]
    obtain ⟨s1, s2⟩ := step_del (hset _ (hcut h1) (hcutP p1)) (hset _ h1 p1)
    exact runs_cons (c := ⟨2, a⟩) s1 s2 (ih B (hcut h1) h2 (hcutP p1) p2)
  | case3 b now ih =>
    intro B h1 h2 p1 p2
    rw [toldR]
    have hb := hmid p2
    have hu : upK size (B ++ b :: []) := by
      rw [happ] at h2
      exact (List.pairwise_append.1 h2).1
    have pu := hput p1 hb
    obtain ⟨s1, s2⟩ := step_ins (hset _ h1 p1) (hset _ hu pu)
    refine runs_cons (c := ⟨1, b⟩) s1 s2 ?_
    have h3 := ih (B ++ [b]) (by rw [← happ]; exact hu) (by rw [← happ]; exact h2) (by rw [← happ]; exact pu) (by rw [← happ]; exact p2)
    rw [List.append_nil, ← happ B now b] at h3
    exact h3
  | case4 a was b now hlt ih =>
    intro B h1 h2 p1 p2
    rw [toldR, if_pos hlt]
    obtain ⟨s1, s2⟩ := step_del (hset _ (hcut h1) (hcutP p1)) (hset _ h1 p1)
    exact runs_cons (c := ⟨2, a⟩) s1 s2 (ih B (hcut h1) h2 (hcutP p1) p2)
  | case5 a was b now hlt hgt ih =>
    intro B h1 h2 p1 p2
    rw [toldR, if_neg hlt, if_pos hgt]
    have hb := hmid p2
    have ha := hmid p1
    have hba := rows_swap (hfine a ha) (hfine b hb) hgt
    have hu : upK size (B ++ b :: a :: was) := by
      unfold upK at h1 h2 ⊢
      rw [List.pairwise_append] at h1 h2 ⊢
      rw [List.pairwise_cons] at h2 ⊢
      refine ⟨h1.1, ⟨fun x hx => ?_, h1.2.1⟩, fun x hx y hy => ?_⟩
      · rcases List.mem_cons.1 hx with rfl | hx2
        · exact hba
        · exact rows_more (hfine b hb) (hfine a ha) (hfine x (p1 x (List.mem_append.2 (.inr (List.mem_cons_of_mem _ hx2))))) hba ((List.pairwise_cons.1 h1.2.1).1 x hx2)
      · rcases List.mem_cons.1 hy with rfl | hy2
        · exact h2.2.2 x hx _ (List.mem_cons_self ..)
        · exact h1.2.2 x hx y hy2
    have pu := hput p1 hb
    obtain ⟨s1, s2⟩ := step_ins (hset _ h1 p1) (hset _ hu pu)
    refine runs_cons (c := ⟨1, b⟩) s1 s2 ?_
    rw [happ B now b, happ B (a :: was) b]
    exact ih (B ++ [b]) (by rw [← happ]; exact hu) (by rw [← happ]; exact h2) (by rw [← happ]; exact pu) (by rw [← happ]; exact p2)
  | case6 a was b now hlt hgt ih =>
    intro B h1 h2 p1 p2
    rw [toldR, if_neg hlt, if_neg hgt]
    have hb := hmid p2
    have ha := hmid p1
    have ek : a.take size = b.take size := rows_same (hfine a ha) (hfine b hb) (by omega)
    by_cases e : a = b
    · rw [if_pos e, List.nil_append]
      subst e
      rw [happ B now a, happ B was a]
      exact ih (B ++ [a]) (by rw [← happ]; exact h1) (by rw [← happ]; exact h2) (by rw [← happ]; exact p1) (by rw [← happ]; exact p2)
    · rw [if_neg e]
      have hu : upK size (B ++ b :: was) := by
        unfold upK at h1 ⊢
        rw [List.pairwise_append, List.pairwise_cons] at h1 ⊢
        refine ⟨h1.1, ⟨fun x hx => by rw [← ek]; exact h1.2.1.1 x hx, h1.2.1.2⟩, fun x hx y hy => ?_⟩
        rcases List.mem_cons.1 hy with rfl | hy2
        · rw [← ek]; exact h1.2.2 x hx _ (List.mem_cons_self ..)
        · exact h1.2.2 x hx y (List.mem_cons_of_mem _ hy2)
      have pu := hput (hcutP p1) hb
      obtain ⟨s1, s2⟩ := step_del (hset _ (hcut h1) (hcutP p1)) (hset _ h1 p1)
      obtain ⟨s3, s4⟩ := step_ins (hset _ (hcut h1) (hcutP p1)) (hset _ hu pu)
      refine runs_cons (c := ⟨3, a⟩) s1 s2 (runs_cons (c := ⟨4, b⟩) s3 s4 ?_)
      rw [happ B now b, happ B was b]
      exact ih (B ++ [b]) (by rw [← happ]; exact hu) (by rw [← happ]; exact h2) (by rw [← happ]; exact pu) (by rw [← happ]; exact p2)
end Go.Proofs.YtbfbgdinhiglaaaGreat.gr
/- A key that no change has keeps its group; a group's key is the key of a change. -/
namespace Go.Proofs.YtbfbgdinhiglaaaGreat.gr
open Go.ChangeShapes Go.WideShapes Go.ChangeAt Go.RowKit
open vl pl bt
set_option linter.unusedVariables false
set_option linter.unusedSimpArgs false
theorem mem_set {gs : List Grp} {i : Nat} (hi : i < gs.length) {g' x : Grp} (h1 : x ≠ g') (h2 : x ≠ gs.getD i default) : x ∈ gs.take i ++ g' :: gs.drop (i + 1) ↔ x ∈ gs := by
  have hsp := split_gs gs i hi
  have e : x ∈ gs ↔ x ∈ gs.take i ++ gs.getD i default :: gs.drop (i + 1) := by rw [← hsp]
  rw [e]
  simp only [List.mem_append, List.mem_cons, h1, h2, false_or]
theorem mem_cut {gs : List Grp} {i : Nat} (hi : i < gs.length) {x : Grp} (h2 : x ≠ gs.getD i default) : x ∈ gs.take i ++ gs.drop (i + 1) ↔ x ∈ gs := by
  have hsp := split_gs gs i hi
  have e : x ∈ gs ↔ x ∈ gs.take i ++ gs.getD i default :: gs.drop (i + 1) := by rw [← hsp]
  rw [e]
  simp only [List.mem_append, List.mem_cons, h2, false_or]
theorem mem_ins {gs : List Grp} {i : Nat} {g' x : Grp} (h1 : x ≠ g') : x ∈ gs.take i ++ g' :: gs.drop i ↔ x ∈ gs := by
  have e : x ∈ gs ↔ x ∈ gs.take i ++ gs.drop i := by rw [List.take_append_drop]
  rw [e]
  simp only [List.mem_append, List.mem_cons, h1, false_or]
theorem do_keeps {p : Pln} {r : List Cel} {gs : List Grp} {k : Int} (h0 : planErr p = 0) (hr : rowF p r) (h : gsR p gs) (hd : (doG p k r gs).1 = 0) {x : Grp} (hx : x.row ≠ pickR r p.group) : x ∈ (doG p k r gs).2 ↔ x ∈ gs := by
  obtain ⟨kf, kt⟩ := key_fine h0 hr
  have hat : hasG gs (pickR r p.group) = true → idxG gs (pickR r p.group) < gs.length ∧ (gs.getD (idxG gs (pickR r p.group)) default).row = pickR r p.group := fun hh => by
    obtain ⟨hi, hc⟩ := hasG_lt hh
    exact ⟨hi, rows_same (h.each _ (getD_mm hi)).1.row kf hc⟩
  have hne : ∀ g : Grp, g.row = pickR r p.group → x ≠ g := fun g e k => hx (by rw [k]; exact e)
  unfold doG at hd ⊢
  by_cases hk : k = 2 ∨ k = 3
  · rw [if_pos hk] at hd ⊢
    by_cases hh : hasG gs (pickR r p.group) = false
    · rw [if_pos hh] at hd; cases hd
    · rw [if_neg hh] at hd ⊢
      obtain ⟨hi, er⟩ := hat (by simpa using hh)
      by_cases hm : mayG p r (gs.getD (idxG gs (pickR r p.group)) default) = false
      · rw [if_pos hm] at hd; cases hd
      · rw [if_neg hm] at hd ⊢
        by_cases hn : (gs.getD (idxG gs (pickR r p.group)) default).n - 1 = 0
        · rw [if_pos hn]
          exact mem_cut hi (hne _ er)
        · rw [if_neg hn]
          exact mem_set hi (hne _ er) (hne _ er)
  · rw [if_neg hk] at hd ⊢
    by_cases hh : hasG gs (pickR r p.group) = true
    · rw [if_pos hh] at hd ⊢
      obtain ⟨hi, er⟩ := hat hh
      by_cases hn : (gs.getD (idxG gs (pickR r p.group)) default).n + 1 > 1073741824 ∨ 4096 < gs.length
      · rw [if_pos hn] at hd; cases hd
      · rw [if_neg hn]
        exact mem_set hi (hne _ er) (hne _ er)
    · rw [if_neg hh] at hd ⊢
      by_cases hn : 4096 < gs.length + 1
      · rw [if_pos hn] at hd; cases hd
      · rw [if_neg hn]
        exact mem_ins (hne _ rfl)
theorem all_keeps {p : Pln} (h0 : planErr p = 0) (hg : p.grouped = true) {x : Grp} : ∀ (l : List ch.Chg) (gs : List Grp), (∀ c ∈ l, rowF p c.r) → gsR p gs → (doAll p gs l).1 = 0 → (∀ c ∈ l, pickR c.r p.group ≠ x.row) → (x ∈ (doAll p gs l).2 ↔ x ∈ gs)
  | [], gs, _, _, _, _ => Iff.rfl
  | c :: l, gs, hl, h, hd, hx => by
    have hr := hl c (List.mem_cons_self ..)
    by_cases hz : (doG p c.k c.r gs).1 = 0
    · rw [doAll_ok hz] at hd ⊢
      rw [all_keeps h0 hg l _ (fun y hy => hl y (List.mem_cons_of_mem _ hy)) (do_right h0 hg hr h hz) hd (fun y hy => hx y (List.mem_cons_of_mem _ hy))]
      exact do_keeps h0 hr h hz (Ne.symm (hx c (List.mem_cons_self ..)))
    · rw [doAll_bad hz] at hd
      exact absurd hd hz
/-- a group's key is the key of a change -/
theorem key_from {p : Pln} (h0 : planErr p = 0) (hg : p.grouped = true) {l : List ch.Chg} (hl : ∀ c ∈ l, rowF p c.r) (hd : (doAll p [] l).1 = 0) {x : Grp} (hx : x ∈ (doAll p [] l).2) : x.row ∈ l.map fun c => pickR c.r p.group := by
  refine Classical.byContradiction fun hn => ?_
  have := (all_keeps (x := x) h0 hg l [] hl (none_right p) hd (fun c hc e => hn (List.mem_map.2 ⟨c, hc, e⟩))).1 hx
  exact absurd this List.not_mem_nil
theorem few_of {α : Type} [DecidableEq α] : ∀ {X Y : List α}, X.Nodup → (∀ x ∈ X, x ∈ Y) → X.length ≤ Y.length
  | [], Y, _, _ => Nat.zero_le _
  | x :: X, Y, hn, h => by
    rw [List.nodup_cons] at hn
    have hx := h x (List.mem_cons_self ..)
    have ih := few_of (Y := Y.erase x) hn.2 fun y hy => (List.mem_erase_of_ne (fun e => hn.1 (by rw [← e]; exact hy))).2 (h y (List.mem_cons_of_mem _ hy))
    rw [List.length_erase_of_mem hx] at ih
    have := List.length_pos_of_mem hx
    rw [List.length_cons]
    omega
end Go.Proofs.YtbfbgdinhiglaaaGreat.gr
/- How much is told. -/
namespace Go.Proofs.YtbfbgdinhiglaaaGreat.gr
open Go.ChangeShapes Go.WideShapes Go.ChangeAt Go.RowKit
open vl pl bt
set_option linter.unusedVariables false
set_option linter.unusedSimpArgs false
def isB (c : ch.Chg) : Bool := decide (c.k = 3)
structure toldK (size : Nat) (was now : List (List Cel)) (T : List ch.Chg) : Prop where
  mem : ∀ c ∈ T, (c.r ∈ was ∧ (c.k ≠ 3 → c.r ∉ now)) ∨ (c.r ∈ now ∧ c.r ∉ was ∧ c.k ≠ 3)
  bef : upK size ((T.filter isB).map (·.r))
  oth : upK size ((T.filter fun c => !isB c).map (·.r))
theorem told_keys (size : Nat) (P : List Cel → Prop) (hP : ∀ x, P x → rowOk x) : ∀ (was now : List (List Cel)), upK size was → upK size now → (∀ x ∈ was, P x) → (∀ x ∈ now, P x) → toldK size was now (toldR size was now) := by
  have hfine : ∀ x, P x → ∀ z ∈ x.take size, fineC z := fun x hx z hz => (hP x hx).2 z (List.mem_of_mem_take hz)
  have hne : ∀ {x y : List Cel}, P x → cmpRows (x.take size) (y.take size) < 0 → y ≠ x := fun hx h e => by
    rw [e, rows_own (hfine _ hx)] at h
    omega
  have upc : ∀ {a : List Cel} {X : List (List Cel)}, (∀ x ∈ X, cmpRows (a.take size) (x.take size) < 0) → upK size X → upK size (a :: X) := fun h1 h2 => List.pairwise_cons.2 ⟨h1, h2⟩
  intro was now
  induction was, now using toldR.induct size with
  | case1 => intro h1 h2 p1 p2; rw [toldR]; exact ⟨fun c hc => absurd hc List.not_mem_nil, List.Pairwise.nil, List.Pairwise.nil⟩
  | case2 a was ih =>
    intro h1 h2 p1 p2
    have h1' := List.pairwise_cons.1 h1
    have I := ih h1'.2 h2 (fun x hx => p1 x (List.mem_cons_of_mem _ hx)) p2
    rw [toldR]
    refine ⟨fun c hc => ?_, ?_, ?_⟩
    · rcases List.mem_cons.1 hc with rfl | hc
      · exact .inl ⟨List.mem_cons_self .., fun _ => List.not_mem_nil⟩
      · rcases I.mem c hc with ⟨k1, k2⟩ | ⟨k1, _⟩
        · exact .inl ⟨List.mem_cons_of_mem _ k1, k2⟩
        · exact absurd k1 List.not_mem_nil
    · exact I.bef
    · refine upc (fun x hx => ?_) I.oth
      obtain ⟨c, hc, rfl⟩ := List.mem_map.1 hx
      rcases I.mem c (List.mem_filter.1 hc).1 with ⟨k1, _⟩ | ⟨k1, _⟩
      · exact h1'.1 _ k1
      · exact absurd k1 List.not_mem_nil
  | case3 b now ih =>
    intro h1 h2 p1 p2
    have h2' := List.pairwise_cons.1 h2
    have I := ih h1 h2'.2 p1 (fun x hx => p2 x (List.mem_cons_of_mem _ hx))
    rw [toldR]
    refine ⟨fun c hc => ?_, ?_, ?_⟩
    · rcases List.mem_cons.1 hc with rfl | hc
      · exact .inr ⟨List.mem_cons_self .., List.not_mem_nil, by simp⟩
      · rcases I.mem c hc with ⟨k1, _⟩ | ⟨k1, k2⟩
        · exact absurd k1 List.not_mem_nil
        · exact .inr ⟨List.mem_cons_of_mem _ k1, k2⟩
    · exact I.bef
    · refine upc (fun x hx => ?_) I.oth
      obtain ⟨c, hc, rfl⟩ := List.mem_map.1 hx
      rcases I.mem c (List.mem_filter.1 hc).1 with ⟨k1, _⟩ | ⟨k1, _⟩
      · exact absurd k1 List.not_mem_nil
      · exact h2'.1 _ k1
  | case4 a was b now hlt ih =>
    intro h1 h2 p1 p2
    have h1' := List.pairwise_cons.1 h1
    have h2' := List.pairwise_cons.1 h2
    have pa := p1 a (List.mem_cons_self ..)
    have pb := p2 b (List.mem_cons_self ..)
    have I := ih h1'.2 h2 (fun x hx => p1 x (List.mem_cons_of_mem _ hx)) p2
    have hlow : ∀ x ∈ b :: now, cmpRows (a.take size) (x.take size) < 0 := fun x hx => by
      rcases List.mem_cons.1 hx with rfl | hx2
      · exact hlt
      · exact rows_more (hfine a pa) (hfine b pb) (hfine x (p2 x hx)) hlt (h2'.1 x hx2)
    rw [toldR, if_pos hlt]
    refine ⟨fun c hc => ?_, ?_, ?_⟩
    · rcases List.mem_cons.1 hc with rfl | hc
      · exact .inl ⟨List.mem_cons_self .., fun _ k => hne pa (hlow _ k) rfl⟩
      · rcases I.mem c hc with ⟨k1, k2⟩ | ⟨k1, k2, k3⟩
        · exact .inl ⟨List.mem_cons_of_mem _ k1, k2⟩
        · refine .inr ⟨k1, fun k => ?_, k3⟩
          rcases List.mem_cons.1 k with e | k
          · exact hne pa (hlow _ k1) e
          · exact k2 k
    · exact I.bef
    · refine upc (fun x hx => ?_) I.oth
      obtain ⟨c, hc, rfl⟩ := List.mem_map.1 hx
      rcases I.mem c (List.mem_filter.1 hc).1 with ⟨k1, _⟩ | ⟨k1, _⟩
      · exact h1'.1 _ k1
      · exact hlow _ k1
  | case5 a was b now hlt hgt ih =>
    intro h1 h2 p1 p2
    have h1' := List.pairwise_cons.1 h1
    have h2' := List.pairwise_cons.1 h2
    have pa := p1 a (List.mem_cons_self ..)
    have pb := p2 b (List.mem_cons_self ..)
    have hba := rows_swap (hfine a pa) (hfine b pb) hgt
    have I := ih h1 h2'.2 p1 (fun x hx => p2 x (List.mem_cons_of_mem _ hx))
    have hlow : ∀ x ∈ a :: was, cmpRows (b.take size) (x.take size) < 0 := fun x hx => by
      rcases List.mem_cons.1 hx with rfl | hx2
      · exact hba
      · exact rows_more (hfine b pb) (hfine a pa) (hfine x (p1 x hx)) hba (h1'.1 x hx2)
    rw [toldR, if_neg hlt, if_pos hgt]
    refine ⟨fun c hc => ?_, ?_, ?_⟩
    · rcases List.mem_cons.1 hc with rfl | hc
      · exact .inr ⟨List.mem_cons_self .., fun k => hne pb (hlow _ k) rfl, by simp⟩
      · rcases I.mem c hc with ⟨k1, k2⟩ | ⟨k1, k2, k3⟩
        · refine .inl ⟨k1, fun k3 k => ?_⟩
          rcases List.mem_cons.1 k with e | k
          · exact hne pb (hlow _ k1) e
          · exact k2 k3 k
        · exact .inr ⟨List.mem_cons_of_mem _ k1, k2, k3⟩
    · exact I.bef
    · refine upc (fun x hx => ?_) I.oth
      obtain ⟨c, hc, rfl⟩ := List.mem_map.1 hx
      rcases I.mem c (List.mem_filter.1 hc).1 with ⟨k1, _⟩ | ⟨k1, _⟩
      · exact hlow _ k1
      · exact h2'.1 _ k1
  | case6 a was b now hlt hgt ih =>
    intro h1 h2 p1 p2
    have h1' := List.pairwise_cons.1 h1
    have h2' := List.pairwise_cons.1 h2
    have pa := p1 a (List.mem_cons_self ..)
    have pb := p2 b (List.mem_cons_self ..)
    have ek : a.take size = b.take size := rows_same (hfine a pa) (hfine b pb) (by omega)
    have I := ih h1'.2 h2'.2 (fun x hx => p1 x (List.mem_cons_of_mem _ hx)) (fun x hx => p2 x (List.mem_cons_of_mem _ hx))
    have hw : ∀ x ∈ was, cmpRows (b.take size) (x.take size) < 0 := fun x hx => by rw [← ek]; exact h1'.1 x hx
    have hn : ∀ x ∈ now, cmpRows (a.take size) (x.take size) < 0 := fun x hx => by rw [ek]; exact h2'.1 x hx
    have hm : ∀ c ∈ toldR size was now, (c.r ∈ a :: was ∧ (c.k ≠ 3 → c.r ∉ b :: now)) ∨ (c.r ∈ b :: now ∧ c.r ∉ a :: was ∧ c.k ≠ 3) := fun c hc => by
      rcases I.mem c hc with ⟨k1, k2⟩ | ⟨k1, k2, k3⟩
      · refine .inl ⟨List.mem_cons_of_mem _ k1, fun k3 k => ?_⟩
        rcases List.mem_cons.1 k with e | k
        · exact hne pb (hw _ k1) e
        · exact k2 k3 k
      · refine .inr ⟨List.mem_cons_of_mem _ k1, fun k => ?_, k3⟩
        rcases List.mem_cons.1 k with e | k
        · exact hne pa (hn _ k1) e
        · exact k2 k
    have hlow : ∀ c ∈ toldR size was now, cmpRows (a.take size) (c.r.take size) < 0 := fun c hc => by
      rcases I.mem c hc with ⟨k1, _⟩ | ⟨k1, _⟩
      · exact h1'.1 _ k1
      · exact hn _ k1
    rw [toldR, if_neg hlt, if_neg hgt]
    by_cases e : a = b
    · rw [if_pos e, List.nil_append]
      exact ⟨hm, I.bef, I.oth⟩
    · rw [if_neg e]
      refine ⟨fun c hc => ?_, ?_, ?_⟩
      · rcases List.mem_cons.1 hc with rfl | hc
        · exact .inl ⟨List.mem_cons_self .., fun k => absurd rfl k⟩
        · rcases List.mem_cons.1 hc with rfl | hc
          · refine .inr ⟨List.mem_cons_self .., fun k => ?_, by simp⟩
            rcases List.mem_cons.1 k with e2 | k
            · exact e e2.symm
            · exact hne pb (hw _ k) rfl
          · exact hm c hc
      · refine upc (a := a) (fun x hx => ?_) I.bef
        obtain ⟨c, hc, rfl⟩ := List.mem_map.1 hx
        rcases List.mem_cons.1 (List.mem_filter.1 hc).1 with e2 | h3
        · rw [e2] at hc
          have := (List.mem_filter.1 hc).2
          simp [isB] at this
        · exact hlow c h3
      · refine upc (a := b) (fun x hx => ?_) I.oth
        obtain ⟨c, hc, rfl⟩ := List.mem_map.1 hx
        rw [← ek]
        exact hlow c (List.mem_filter.1 hc).1
end Go.Proofs.YtbfbgdinhiglaaaGreat.gr
/- Two steps from groups without rows: how much is told, and where it leads. -/
namespace Go.Proofs.YtbfbgdinhiglaaaGreat.gr
open Go.ChangeShapes Go.WideShapes Go.ChangeAt Go.RowKit
open vl pl bt
set_option linter.unusedVariables false
set_option linter.unusedSimpArgs false
theorem filter_len (f : ch.Chg → Bool) : ∀ l : List ch.Chg, l.length = (l.filter f).length + (l.filter fun c => !f c).length
  | [] => rfl
  | c :: l => by
    have ih := filter_len f l
    cases h : f c <;> simp [List.filter_cons, h] <;> omega
theorem up_nodup {size : Nat} {X : List (List Cel)} (h : upK size X) (hf : ∀ x ∈ X, ∀ z ∈ x, fineC z) : (X.map (·.take size)).Nodup := by
  unfold List.Nodup
  rw [List.pairwise_map]
  refine h.imp_of_mem fun {a b} ha hb hc e => ?_
  rw [e, rows_own (fun z hz => hf b hb z (List.mem_of_mem_take hz))] at hc
  omega
/-- the rows that groups stand for -/
def rowsG (p : Pln) (gs : List Grp) : List (List Cel) := gs.map fun g => (rowC p g).r
theorem key_row {p : Pln} {g : Grp} (h : grpR p g) : (rowC p g).r.take p.group.length = g.row := by
  show (g.row ++ figsG p g).take p.group.length = g.row
  rw [← row_len h, List.take_left]
theorem up_rows {p : Pln} {gs : List Grp} (h : gsR p gs) : upK p.group.length (rowsG p gs) := by
  have hup := h.up
  unfold upG at hup
  unfold upK rowsG
  rw [List.pairwise_map] at hup ⊢
  refine hup.imp_of_mem fun {a b} ha hb hc => ?_
  rw [key_row (h.each a ha).1, key_row (h.each b hb).1]
  exact hc
section
variable {p : Pln} {l1 l2 : List ch.Chg} {a b : List Grp}
theorem rows_few (h0 : planErr p = 0) (hg : p.grouped = true) (h1 : ∀ c ∈ l1, rowF p c.r ∧ 1 ≤ c.k ∧ c.k ≤ 4) (h2 : ∀ c ∈ l2, rowF p c.r ∧ 1 ≤ c.k ∧ c.k ≤ 4) (ha : doAll p [] l1 = (0, a)) (hb : doAll p a l2 = (0, b)) (hok : ∀ x, x ∈ rowsG p a ∨ x ∈ rowsG p b → rowOk x) :
    (toldR p.group.length (rowsG p a) (rowsG p b)).length ≤ l1.length + l2.length ∧ ∀ X, upK p.group.length X → (∀ x ∈ X, x ∈ rowsG p a ∨ x ∈ rowsG p b) → X.length ≤ l1.length + l2.length := by
  have ea : (doAll p [] l1).2 = a := by rw [ha]
  have eb : (doAll p a l2).2 = b := by rw [hb]
  have ra : gsR p a := by have := (all_cnt h0 hg l1 [] h1 (none_right p) (by rw [ha])).1; rwa [ea] at this
  have rb : gsR p b := by have := (all_cnt h0 hg l2 a h2 ra (by rw [hb])).1; rwa [eb] at this
  have hfa : ∀ g ∈ a, g.row ∈ l1.map fun c => pickR c.r p.group := fun g hg2 => key_from h0 hg (fun c hc => (h1 c hc).1) (by rw [ha]) (by rw [ea]; exact hg2)
  have hkeep : ∀ g : Grp, g.row ∉ l2.map (fun c => pickR c.r p.group) → (g ∈ b ↔ g ∈ a) := fun g hn => by
    have := all_keeps (x := g) h0 hg l2 a (fun c hc => (h2 c hc).1) ra (by rw [hb]) (fun c hc e => hn (List.mem_map.2 ⟨c, hc, e⟩))
    rwa [eb] at this
  have hk : ∀ x, x ∈ rowsG p a ∨ x ∈ rowsG p b → x.take p.group.length ∈ (l1 ++ l2).map fun c => pickR c.r p.group := by
    intro x hx
    rw [List.map_append, List.mem_append]
    rcases hx with hx | hx
    · obtain ⟨g, hg2, rfl⟩ := List.mem_map.1 hx
      rw [key_row (ra.each g hg2).1]
      exact .inl (hfa g hg2)
    · obtain ⟨g, hg2, rfl⟩ := List.mem_map.1 hx
      rw [key_row (rb.each g hg2).1]
      by_cases hin : g.row ∈ l2.map fun c => pickR c.r p.group
      · exact .inr hin
      · exact .inl (hfa g ((hkeep g hin).1 hg2))
  have T := told_keys p.group.length (fun x => x ∈ rowsG p a ∨ x ∈ rowsG p b) hok (rowsG p a) (rowsG p b) (up_rows ra) (up_rows rb) (fun x hx => .inl hx) (fun x hx => .inr hx)
  have hmem : ∀ c ∈ toldR p.group.length (rowsG p a) (rowsG p b), c.r ∈ rowsG p a ∨ c.r ∈ rowsG p b := fun c hc => (T.mem c hc).elim (fun k => .inl k.1) (fun k => .inr k.1)
  refine ⟨?_, fun X hX hx => ?_⟩
  · rw [filter_len isB (toldR p.group.length (rowsG p a) (rowsG p b))]
    have b1 := few_of (Y := l1.map fun c => pickR c.r p.group) (up_nodup T.bef fun x hx => ?_) (fun x hx => ?_)
    have b2 := few_of (Y := l2.map fun c => pickR c.r p.group) (up_nodup T.oth fun x hx => ?_) (fun x hx => ?_)
    · simp only [List.length_map] at b1 b2
      omega
    · obtain ⟨c, hc, rfl⟩ := List.mem_map.1 hx
      exact (hok _ (hmem c (List.mem_filter.1 hc).1)).2
    · obtain ⟨y, hy, rfl⟩ := List.mem_map.1 hx
      obtain ⟨c, hc, rfl⟩ := List.mem_map.1 hy
      obtain ⟨hc1, hc2⟩ := List.mem_filter.1 hc
      have hc3 : c.k ≠ 3 := by simpa [isB] using hc2
      refine Classical.byContradiction fun hn => ?_
      rcases T.mem c hc1 with ⟨k1, k2⟩ | ⟨k1, k2, _⟩
      · obtain ⟨g, hg2, e⟩ := List.mem_map.1 k1
        rw [← e] at hn
        rw [key_row (ra.each g hg2).1] at hn
        exact k2 hc3 (by rw [← e]; exact List.mem_map.2 ⟨g, (hkeep g hn).2 hg2, rfl⟩)
      · obtain ⟨g, hg2, e⟩ := List.mem_map.1 k1
        rw [← e] at hn
        rw [key_row (rb.each g hg2).1] at hn
        exact k2 (by rw [← e]; exact List.mem_map.2 ⟨g, (hkeep g hn).1 hg2, rfl⟩)
    · obtain ⟨c, hc, rfl⟩ := List.mem_map.1 hx
      exact (hok _ (hmem c (List.mem_filter.1 hc).1)).2
    · obtain ⟨y, hy, rfl⟩ := List.mem_map.1 hx
      obtain ⟨c, hc, rfl⟩ := List.mem_map.1 hy
      obtain ⟨hc1, hc2⟩ := List.mem_filter.1 hc
      have hc3 : c.k = 3 := by simpa [isB] using hc2
      rcases T.mem c hc1 with ⟨k1, k2⟩ | ⟨k1, k2, k3⟩
      · obtain ⟨g, hg2, e⟩ := List.mem_map.1 k1
        rw [← e]
        rw [key_row (ra.each g hg2).1]
        exact hfa g hg2
      · exact absurd hc3 k3
  · have := few_of (Y := (l1 ++ l2).map fun c => pickR c.r p.group) (up_nodup hX fun x hx2 => (hok x (hx x hx2)).2) (fun x hx2 => by
      obtain ⟨y, hy, rfl⟩ := List.mem_map.1 hx2
      exact hk y (hx y hy))
    simpa using this
end
end Go.Proofs.YtbfbgdinhiglaaaGreat.gr
/- What is told has the form of changes. -/
namespace Go.Proofs.YtbfbgdinhiglaaaGreat.gr
open Go.ChangeShapes Go.WideShapes Go.ChangeAt Go.RowKit
open vl pl bt
set_option linter.unusedVariables false
set_option linter.unusedSimpArgs false
/-- a Before stands just ahead of its After -/
inductive Paired : List ch.Chg → Prop
  | nil : Paired []
  | one {c : ch.Chg} {l : List ch.Chg} : c.k ≠ 3 → c.k ≠ 4 → Paired l → Paired (c :: l)
  | two {c d : ch.Chg} {l : List ch.Chg} : c.k = 3 → d.k = 4 → Paired l → Paired (c :: d :: l)
theorem pair_next {l : List ch.Chg} {i : Nat} (c : ch.Chg) (h : ch.pairedAt l i = true) : ch.pairedAt (c :: l) (i + 1) = true := by
  unfold ch.pairedAt at h ⊢
  rw [List.getD_cons_succ]
  by_cases h3 : (l.getD i default).k = 3
  · rw [if_pos h3] at h ⊢
    simp only [Bool.and_eq_true, decide_eq_true_eq, List.length_cons, List.getD_cons_succ] at h ⊢
    exact ⟨by omega, h.2⟩
  · rw [if_neg h3] at h ⊢
    by_cases h4 : (l.getD i default).k = 4
    · rw [if_pos h4] at h ⊢
      simp only [Bool.and_eq_true, decide_eq_true_eq] at h ⊢
      refine ⟨by omega, ?_⟩
      obtain ⟨j, rfl⟩ : ∃ j, i = j + 1 := ⟨i - 1, by omega⟩
      simpa using h.2
    · rw [if_neg h4]
theorem paired_at {l : List ch.Chg} (h : Paired l) : ∀ i, i < l.length → ch.pairedAt l i = true := by
  induction h with
  | nil => intro i hi; exact absurd hi (Nat.not_lt_zero _)
  | @one c l h3 h4 _ ih =>
    intro i hi
    cases i with
    | zero =>
      unfold ch.pairedAt
      rw [List.getD_cons_zero, if_neg h3, if_neg h4]
    | succ i => exact pair_next c (ih i (by simpa using hi))
  | @two c d l h3 h4 _ ih =>
    intro i hi
    cases i with
    | zero =>
      unfold ch.pairedAt
      rw [List.getD_cons_zero, if_pos h3]
      simp [h4]
    | succ i =>
      cases i with
      | zero =>
        unfold ch.pairedAt
        rw [List.getD_cons_succ, List.getD_cons_zero, if_neg (by omega), if_pos h4]
        simp [h3]
      | succ i => exact pair_next c (pair_next d (ih i (by simp at hi; omega)))
theorem told_paired (size : Nat) : ∀ was now : List (List Cel), Paired (toldR size was now) := by
  intro was now
  induction was, now using toldR.induct size with
  | case1 => rw [toldR]; exact .nil
  | case2 a was ih => rw [toldR]; exact .one (by simp) (by simp) ih
  | case3 b now ih => rw [toldR]; exact .one (by simp) (by simp) ih
  | case4 a was b now hlt ih => rw [toldR, if_pos hlt]; exact .one (by simp) (by simp) ih
  | case5 a was b now hlt hgt ih => rw [toldR, if_neg hlt, if_pos hgt]; exact .one (by simp) (by simp) ih
  | case6 a was b now hlt hgt ih =>
    rw [toldR, if_neg hlt, if_neg hgt]
    by_cases e : a = b
    · rw [if_pos e]; exact ih
    · rw [if_neg e]; exact .two rfl rfl ih
theorem told_kinds (size : Nat) : ∀ (was now : List (List Cel)), ∀ c ∈ toldR size was now, 1 ≤ c.k ∧ c.k ≤ 4 := by
  intro was now
  induction was, now using toldR.induct size with
  | case1 => rw [toldR]; exact fun c hc => absurd hc List.not_mem_nil
  | case2 a was ih => rw [toldR]; exact fun c hc => (List.mem_cons.1 hc).elim (fun e => by rw [e]; simp) (ih c)
  | case3 b now ih => rw [toldR]; exact fun c hc => (List.mem_cons.1 hc).elim (fun e => by rw [e]; simp) (ih c)
  | case4 a was b now hlt ih => rw [toldR, if_pos hlt]; exact fun c hc => (List.mem_cons.1 hc).elim (fun e => by rw [e]; simp) (ih c)
  | case5 a was b now hlt hgt ih => rw [toldR, if_neg hlt, if_pos hgt]; exact fun c hc => (List.mem_cons.1 hc).elim (fun e => by rw [e]; simp) (ih c)
  | case6 a was b now hlt hgt ih =>
    rw [toldR, if_neg hlt, if_neg hgt]
    intro c hc
    rcases List.mem_append.1 hc with hc | hc
    · by_cases e : a = b
      · rw [if_pos e] at hc; exact absurd hc List.not_mem_nil
      · rw [if_neg e] at hc
        rcases List.mem_cons.1 hc with e1 | hc
        · rw [e1]; simp
        · rw [List.mem_singleton.1 hc]; simp
    · exact ih c hc
/-- what is told has the form of changes -/
theorem told_form {size : Nat} {was now : List (List Cel)} (hl : (toldR size was now).length ≤ 4096) (hk : ∀ c ∈ toldR size was now, keyErr c.r = 0) : ch.formErr (toldR size was now) = 0 := by
  refine ch.ok_form ⟨hl, fun i hi => ?_⟩
  have hm := getD_mm (α := ch.Chg) hi
  have h1 := told_kinds size was now _ hm
  exact ⟨h1.1, h1.2, hk _ hm, paired_at (told_paired size was now) i hi⟩
end Go.Proofs.YtbfbgdinhiglaaaGreat.gr
/- Groups out of nothing, and the view out of nothing: alike. -/
namespace Go.Proofs.YtbfbgdinhiglaaaGreat.gr
open Go.ChangeShapes Go.WideShapes Go.ChangeAt Go.RowKit
open vl pl bt
set_option linter.unusedVariables false
set_option linter.unusedSimpArgs false
theorem kv_rows (p : Pln) (gs : List Grp) : ch.kvOf (gs.map (rowC p)) = kvR (rowsG p gs) := by
  unfold ch.kvOf kvR rowsG
  rw [List.map_map, List.map_map]
  rfl
/-- groups that changes make out of nothing, and the view that Fold makes of them -/
theorem like_all {p : Pln} {l : List ch.Chg} {v : List ch.Cnt} {b : List Grp} (h0 : planErr p = 0) (hg : p.grouped = true) (hl : ∀ c ∈ l, rowF p c.r ∧ 1 ≤ c.k ∧ c.k ≤ 4) (hr : ∀ c ∈ l, rowOk c.r) (he : ∀ i, i < l.length → ch.errK [] l i = 0) (hv : ch.kvOf v = ch.atK [] l l.length) (hgd : ch.good (ch.kvOf v)) (hvr : ∀ c ∈ v, rowOk c.r) (hb : doAll p [] l = (0, b)) : gsR p b ∧ likeG p b v := by
  have eb : (doAll p [] l).2 = b := by rw [hb]
  obtain ⟨i1, i2, i3⟩ := all_cnt h0 hg l [] hl (none_right p) (by rw [hb])
  rw [eb] at i1 i2 i3
  refine ⟨i1, fun key => ?_, fun j hj hn key c => ?_⟩
  · rw [i2, none_cnt, fold_view hr he hv hgd hvr, Int.zero_add]
  · rw [i3 j hj hn, none_tal, fold_view hr he hv hgd hvr, Int.zero_add]
/-- changes that Fold can do never lack a group or a tally -/
theorem fit_all {p : Pln} {l : List ch.Chg} (h0 : planErr p = 0) (hg : p.grouped = true) (hl : ∀ c ∈ l, rowF p c.r ∧ 1 ≤ c.k ∧ c.k ≤ 4) (hr : ∀ c ∈ l, rowOk c.r) (he : ∀ i, i < l.length → ch.errK [] l i = 0) (i : Nat) (hi : i ≤ l.length) : (doAll p [] (l.take i)).1 = 0 ∨ (doAll p [] (l.take i)).1 = 2 :=
  all_fit h0 hg l hl (fun i hi r => fold_least hr he i hi r) (fun i hi hk => fold_there hr he i hi hk) i hi
end Go.Proofs.YtbfbgdinhiglaaaGreat.gr
/- append([]T(nil), s...): a row of one's own, like another. -/
namespace Go.Proofs.YtbfbgdinhiglaaaGreat.gr
open Go.ChangeShapes Go.WideShapes Go.ChangeAt Go.RowKit
open vl pl bt
set_option linter.unusedVariables false
set_option linter.unusedSimpArgs false
/-- cells that lie from an address on; of none, nothing -/
def cellsAt (w : World) (a : Option Addr) (m : Nat) (xs : List Value) : Prop := (a = none → m = 0 ∧ xs = []) ∧ ∀ b, a = some b → ∀ j u, xs[j]? = some u → w.cell? (b.add j) = some u
theorem run_clone (w : World) (t ty e : TypeId) (i : TypeInfo) (z : Value) (size bytes : Nat) (ht : Tryz.prog.underlying t = some (.slice e)) (hi : Tryz.prog.info? e = some i) (hz : i.zero = some z) (hsize : i.size = size) (hby : i.bytes = bytes) (hzs : z.cells.size = size) (hsz : 0 < size)
    (a : Option Addr) (m c : Nat) (xs : List Value) (hl : xs.length = m * size) (hx : cellsAt w a m xs) (h1 : ∀ u ∈ xs, u.oneCell' = true) (hbytes : m * bytes ≤ 140737488355328) (hm : m ≤ 4611686018427387904) :
    ∃ a' c' w', (Builtin.append_ #[t, t] ty #[.slice none 0 0, .slice a m c]).run Tryz.prog w = .ok (.slice a' m c') w' ∧ w'.ownsRow w.heap.size e size (.slice a' m c') m xs ∧ Below w.heap.size w w' := by
  cases a with
  | none =>
    obtain ⟨rfl, rfl⟩ := hx.1 rfl
    exact ⟨none, 0, w, ch.run_append_none w.heap.size t ty e i size c ht hi (.slice none 0 0) 0 [] (World.ownsRow_nil _ _ _ _), World.ownsRow_nil _ _ _ _, Below.refl _ _⟩
  | some b =>
    obtain ⟨v', w', hr, h2, h3, _, _⟩ := run_append_own_at (P := Tryz.prog) w w.heap.size t ty e i z size bytes ht hi hz hsize hby hzs hsz (.slice none 0 0) 0 [] (World.ownsRow_nil _ _ _ _) b m c xs hl (hx.2 b rfl) h1 (by unfold maxLen; omega) (by rw [Nat.zero_add]; exact hbytes) (Nat.le_refl _)
    rw [Nat.zero_add, List.nil_append] at h2
    have ev := own_is h2
    rw [ev] at hr h2
    exact ⟨_, _, w', hr, h2, (Below.refl _ _).grown h3 (Nat.le_refl _) (fun k hk => by cases hk)⟩
theorem cellsAt_row {w : World} {a : Option Addr} {r : List Cel} (h : vl.rowAt w a r) (hn : a = none → r = []) : cellsAt w a r.length (celCells r) := by
  refine ⟨fun e => by rw [hn e]; exact ⟨rfl, rfl⟩, fun b hb j u hu => ?_⟩
  cases hr : r with
  | nil => rw [hr] at hu; cases hu
  | cons c l =>
    obtain ⟨b1, o1, e1, _⟩ := h 0 (by rw [hr]; simp)
    rw [hb] at e1
    cases e1
    rw [hb] at h
    exact ch.rowAt_cells h j u hu
theorem tal_cells {w : World} {b o : Nat} {l : List Tal} (h : bagAt w (some ⟨b, o, none⟩) l) : ∀ j u, (talCells l)[j]? = some u → w.cell? ((⟨b, o, none⟩ : Addr).add j) = some u := fun j u hu => by
  have hj : j < (talCells l).length := by
    rcases Nat.lt_or_ge j (talCells l).length with h | h
    · exact h
    · rw [List.getElem?_eq_none h] at hu; cases hu
  rw [talLen] at hj
  rw [ch.add_at]
  obtain ⟨b1, o1, e1, x1, x2, x3, x4⟩ := h (j / 4) (by omega)
  cases e1
  obtain ⟨z1, z2, z3, z4⟩ := talCells_at l (j / 4) (by omega)
  have hc : j = j / 4 * 4 ∨ j = j / 4 * 4 + 1 ∨ j = j / 4 * 4 + 2 ∨ j = j / 4 * 4 + 3 := by omega
  rcases hc with e | e | e | e
  · rw [e, z1] at hu; cases hu; rw [e]; simpa using x1
  · rw [e, z2] at hu; cases hu; rw [e, ← Nat.add_assoc]; rw [show (j / 4 * 4 + 1) / 4 = j / 4 by omega]; exact x2
  · rw [e, z3] at hu; cases hu; rw [e, ← Nat.add_assoc]; rw [show (j / 4 * 4 + 2) / 4 = j / 4 by omega]; exact x3
  · rw [e, z4] at hu; cases hu; rw [e, ← Nat.add_assoc]; rw [show (j / 4 * 4 + 3) / 4 = j / 4 by omega]; exact x4
theorem cellsAt_tal {w : World} {a : Option Addr} {l : List Tal} (h : bagAt w a l) (hn : a = none → l = []) : cellsAt w a l.length (talCells l) := by
  refine ⟨fun e => by rw [hn e]; exact ⟨rfl, rfl⟩, fun b hb j u hu => ?_⟩
  cases hr : l with
  | nil => rw [hr] at hu; cases hu
  | cons c l' =>
    obtain ⟨b1, o1, e1, _⟩ := h 0 (by rw [hr]; simp)
    rw [hb] at e1
    cases e1
    rw [hb] at h
    exact tal_cells h j u hu
theorem none_empty {w : World} {l : List Tal} (h : bagAt w none l) : l = [] := by
  cases l with
  | nil => rfl
  | cons c l => obtain ⟨_, _, e, _⟩ := h 0 (by simp); cases e
theorem none_emptyR {w : World} {r : List Cel} (h : vl.rowAt w none r) : r = [] := by
  cases r with
  | nil => rfl
  | cons c l => obtain ⟨_, _, e, _⟩ := h 0 (by simp); cases e
end Go.Proofs.YtbfbgdinhiglaaaGreat.gr
/- copied: groups made anew. -/
namespace Go.Proofs.YtbfbgdinhiglaaaGreat.gr
open Go.ChangeShapes Go.WideShapes Go.ChangeAt Go.RowKit
open vl pl bt
set_option linter.unusedVariables false
set_option linter.unusedSimpArgs false
attribute [local go_sem] Oper.semAt_some
theorem infoBg : (Tryz.prog.info? 61).map (fun i => (i.zero, i.size, i.bytes)) = some (some (.slice none 0 0), 1, 24) := by kernel_rfl
/-- bags made so far, ahead of what is one's own besides -/
def bagsE (b : Value) (bs : List (Value × List Tal)) (E : List Own1) : List Own1 := ⟨b, 61, 1, bs.length, bs.map (·.1)⟩ :: (bs.map bagO ++ E)
theorem bagsE_app {w w1 w2 : World} {base : Nat} {b b' : Value} {bs : List (Value × List Tal)} {E : List Own1} {v : Value} {l : List Tal} (h : Est w base (bagsE b bs E)) (hb : Below w.heap.size w w1) (hv : w1.ownsRow w.heap.size 82 4 v l.length (talCells l)) (hg : w1.heap.size ≤ w2.heap.size) (hblk : ∀ k, k < w1.heap.size → b.ownBlock ≠ some k → w2.heap[k]? = w1.heap[k]?) (hown : w2.ownsRow base 61 1 b' (bs.length + 1) (bs.map (·.1) ++ [v])) (hat : ∀ g, b'.ownBlock = some g → b.ownBlock = some g ∨ w1.heap.size ≤ g) : Est w2 base (bagsE b' (bs ++ [(v, l)]) E) := by
  have h1 : Est w1 base (bagO (v, l) :: bagsE b bs E) := Est_new (x := bagO (v, l)) h hb (World.ownsRow.mono hv h.low) (fun g hg => (ch.own_lt hv hg).1)
  have h2 := Est_perm h1 (List.Perm.swap _ _ _)
  have h3 := Est_frame (x' := ⟨b', 61, 1, bs.length + 1, bs.map (·.1) ++ [v]⟩) h2 hg hblk hown hat
  refine Est_perm h3 (perm_of (fun a => ?_))
  have e : (⟨b', 61, 1, bs.length + 1, bs.map (·.1) ++ [v]⟩ : Own1) = ⟨b', 61, 1, (bs ++ [(v, l)]).length, (bs ++ [(v, l)]).map (·.1)⟩ := by simp
  rw [e]
  unfold bagsE
  simp only [List.map_append, List.map_cons, List.map_nil, List.count_append, List.count_cons, List.count_nil]
  omega
/-- a group made anew is put behind the others -/
theorem OG.app {w w1 w2 : World} {base : Nat} {u u' b : Value} {bs : List (Value × List Tal)} {L : List GO} {v : Value} {row : List Cel} {nn : Int} (h : Est w base (bagsE b bs (headO u L :: L.flatMap GO.all))) (hb : Below w.heap.size w w1) (hv : w1.ownsRow w.heap.size 68 3 v row.length (celCells row)) (hg : w1.heap.size ≤ w2.heap.size) (hblk : ∀ k, k < w1.heap.size → u.ownBlock ≠ some k → w2.heap[k]? = w1.heap[k]?) (hown : w2.ownsRow base 53 3 u' (L.length + 1) (gcells L ++ [v, .int .i64 nn, b])) (hat : ∀ g, u'.ownBlock = some g → u.ownBlock = some g ∨ w1.heap.size ≤ g) : OG w2 base u' (L ++ [⟨v, row, nn, b, bs⟩]) := by
  have h1 : Est w1 base (GO.rowO ⟨v, row, nn, b, bs⟩ :: bagsE b bs (headO u L :: L.flatMap GO.all)) := Est_new (x := GO.rowO ⟨v, row, nn, b, bs⟩) h hb (World.ownsRow.mono hv h.low) (fun g hg => (ch.own_lt hv hg).1)
  have h2 : Est w1 base (headO u L :: (GO.all ⟨v, row, nn, b, bs⟩ ++ L.flatMap GO.all)) := by
    refine Est_perm h1 (perm_of (fun a => ?_))
    have e5 : GO.bagsO ⟨v, row, nn, b, bs⟩ = (⟨b, 61, 1, bs.length, bs.map (·.1)⟩ : Own1) := rfl
    unfold bagsE GO.all
    rw [e5]
    simp only [List.count_append, List.count_cons]
    omega
  have e1 : (L ++ [(⟨v, row, nn, b, bs⟩ : GO)]).length = L.length + 1 := by simp
  have e2 : gcells (L ++ [(⟨v, row, nn, b, bs⟩ : GO)]) = gcells L ++ [v, .int .i64 nn, b] := by rw [gcells_app]; rfl
  have h3 := Est_frame (x' := headO u' (L ++ [(⟨v, row, nn, b, bs⟩ : GO)])) h2 hg hblk (by have hh := hown; rw [← e1, ← e2] at hh; exact hh) hat
  refine Est_perm h3 (perm_of (fun a => ?_))
  simp only [List.flatMap_append, List.flatMap_cons, List.flatMap_nil, List.count_append, List.count_cons, List.append_nil]
  omega
end Go.Proofs.YtbfbgdinhiglaaaGreat.gr
