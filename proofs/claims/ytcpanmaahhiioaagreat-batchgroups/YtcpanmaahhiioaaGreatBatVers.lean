/- E2, E5: a left row's version: where times are all unlike, no order of the right rows is in it. No Go in sight. -/
import Derived.Test.YtcpanmaahhiioaaGreatMgBatA
namespace Go.Proofs.YtcpanmaahhiioaaGreat.bt
open vl pl
set_option linter.unusedVariables false
set_option linter.unusedSimpArgs false
theorem vstep_none {l : Int} {R : List Stm} {b : Option Nat} {a : Nat} (h : vstep l R b a = none) : b = none ∧ l < (R.getD a default).t := by
  unfold vstep at h
  split at h
  · rename_i h1; exact ⟨h, h1⟩
  · split at h
    · cases h
    · split at h <;> cases h
theorem vstep_some {l : Int} {R : List Stm} {b : Option Nat} {a k : Nat} (h : vstep l R b a = some k) : (k = a ∧ (R.getD a default).t ≤ l) ∨ b = some k := by
  unfold vstep at h
  split at h
  · exact .inr h
  · rename_i h1
    split at h
    · cases h; exact .inl ⟨rfl, by omega⟩
    · split at h
      · cases h; exact .inl ⟨rfl, by omega⟩
      · exact .inr h
theorem vstep_up {l : Int} {R : List Stm} (b : Option Nat) {a : Nat} (h : (R.getD a default).t ≤ l) : ∃ k, vstep l R b a = some k ∧ (R.getD a default).t ≤ (R.getD k default).t := by
  unfold vstep
  rw [if_neg (by omega)]
  cases b with
  | none => exact ⟨a, rfl, Int.le_refl _⟩
  | some c =>
    dsimp only
    split
    · exact ⟨a, rfl, Int.le_refl _⟩
    · exact ⟨c, rfl, by omega⟩
theorem vstep_old {l : Int} {R : List Stm} (j a : Nat) : ∃ k, vstep l R (some j) a = some k ∧ (R.getD j default).t ≤ (R.getD k default).t := by
  unfold vstep
  split
  · exact ⟨j, rfl, Int.le_refl _⟩
  · dsimp only
    split
    · rename_i h; exact ⟨a, rfl, h⟩
    · exact ⟨j, rfl, Int.le_refl _⟩
theorem vers_none {l : Int} {R : List Stm} (ks : List Nat) : ∀ b : Option Nat, ks.foldl (vstep l R) b = none → b = none ∧ ∀ j ∈ ks, l < (R.getD j default).t := by
  induction ks with
  | nil => intro b h; exact ⟨h, fun j hj => by cases hj⟩
  | cons a ks ih =>
    intro b h
    rw [List.foldl_cons] at h
    obtain ⟨h1, h2⟩ := ih _ h
    obtain ⟨h3, h4⟩ := vstep_none h1
    refine ⟨h3, fun j hj => ?_⟩
    rcases List.mem_cons.1 hj with rfl | hj
    · exact h4
    · exact h2 j hj
theorem vers_some {l : Int} {R : List Stm} {k : Nat} (ks : List Nat) : ∀ b : Option Nat, (∀ c, b = some c → (R.getD c default).t ≤ l) → ks.foldl (vstep l R) b = some k →
    (R.getD k default).t ≤ l ∧ (∀ j ∈ ks, (R.getD j default).t ≤ l → (R.getD j default).t ≤ (R.getD k default).t) ∧ ∀ j, b = some j → (R.getD j default).t ≤ (R.getD k default).t := by
  induction ks with
  | nil =>
    intro b hb h
    have e : b = some k := h
    subst e
    exact ⟨hb k rfl, fun j hj => (by cases hj), fun j e => (by cases e; exact Int.le_refl _)⟩
  | cons a ks ih =>
    intro b hb h
    rw [List.foldl_cons] at h
    obtain ⟨h1, h2, h3⟩ := ih (vstep l R b a) (fun c hc => by
      rcases vstep_some hc with ⟨rfl, h4⟩ | h4
      · exact h4
      · exact hb c h4) h
    refine ⟨h1, fun j hj hl => ?_, fun j e => ?_⟩
    · rcases List.mem_cons.1 hj with rfl | hj
      · obtain ⟨c, e, hc⟩ := vstep_up b hl
        exact Int.le_trans hc (h3 c e)
      · exact h2 j hj hl
    · subst e
      obtain ⟨c, e, hc⟩ := vstep_old (l := l) (R := R) j a
      exact Int.le_trans hc (h3 c e)
theorem version_none {l : Int} {R : List Stm} {ks : List Nat} (h : versionOf l R ks = none) : ∀ j ∈ ks, l < (R.getD j default).t := (vers_none ks none h).2
theorem version_some {l : Int} {R : List Stm} {ks : List Nat} {k : Nat} (h : versionOf l R ks = some k) : (R.getD k default).t ≤ l ∧ ∀ j ∈ ks, (R.getD j default).t ≤ l → (R.getD j default).t ≤ (R.getD k default).t := by
  have := vers_some ks none (fun c e => by cases e) h
  exact ⟨this.1, this.2.1⟩
/-- the version itself -/
def versR (p : Pln) (l : Stm) (R : List Stm) : Option Stm := if hasB p 1 l.r = true then (versionOf l.t R (placesOf p R (keyOfS p 1 l.r))).map (fun k => R.getD k default) else none
/-- may a right row be a left row's version? -/
def cand (p : Pln) (l s : Stm) : Bool := hasB p 1 l.r && (sameKey p l s && decide (s.t ≤ l.t))
theorem mem_getD_of {R : List Stm} {s : Stm} (h : s ∈ R) : ∃ k, k < R.length ∧ R.getD k default = s := by
  obtain ⟨k, hk, e⟩ := List.mem_iff_getElem.1 h
  exact ⟨k, hk, by rw [List.getD_eq_getElem?_getD, List.getElem?_eq_getElem hk]; exact e⟩
theorem cand_place {p : Pln} {l s : Stm} {R : List Stm} (hs : s ∈ R) (hc : cand p l s = true) : hasB p 1 l.r = true ∧ s.t ≤ l.t ∧ ∃ k, k ∈ placesOf p R (keyOfS p 1 l.r) ∧ R.getD k default = s := by
  unfold cand sameKey at hc
  simp only [Bool.and_eq_true, decide_eq_true_eq] at hc
  obtain ⟨h1, ⟨h2, h3⟩, h4⟩ := hc
  obtain ⟨k, hk, e⟩ := mem_getD_of hs
  refine ⟨h1, h4, k, ?_, e⟩
  unfold placesOf
  rw [List.mem_filter]
  refine ⟨List.mem_range.2 hk, ?_⟩
  unfold atKey
  rw [e, h2, h3]
  simp
theorem versR_none {p : Pln} {l : Stm} {R : List Stm} (h : versR p l R = none) : ∀ s ∈ R, cand p l s = false := by
  intro s hs
  cases hc : cand p l s with
  | false => rfl
  | true =>
    obtain ⟨h1, h2, k, hk, e⟩ := cand_place hs hc
    unfold versR at h
    rw [if_pos h1] at h
    have := version_none (Option.map_eq_none_iff.1 h) k hk
    rw [e] at this
    omega
theorem versR_some {p : Pln} {l : Stm} {R : List Stm} {s : Stm} (h : versR p l R = some s) : s ∈ R ∧ cand p l s = true ∧ ∀ x ∈ R, cand p l x = true → x.t ≤ s.t := by
  unfold versR at h
  split at h
  · rename_i hh
    obtain ⟨k, hk, rfl⟩ := Option.map_eq_some_iff.1 h
    have hm := places_lt (version_mem hk)
    have hv := version_some hk
    refine ⟨getD_mem hm.1, ?_, fun x hx hc => ?_⟩
    · have h2 := hm.2
      unfold atKey at h2
      unfold cand sameKey
      simp only [Bool.and_eq_true, decide_eq_true_eq] at h2 ⊢
      exact ⟨hh, h2, hv.1⟩
    · obtain ⟨h1, h2, j, hj, e⟩ := cand_place hx hc
      have := hv.2 j hj (by rw [e]; exact h2)
      rw [e] at this
      exact this
  · cases h
theorem unlike_eq {R : List Stm} (h : R.Pairwise fun a b => a.t ≠ b.t) {a b : Stm} (ha : a ∈ R) (hb : b ∈ R) (e : a.t = b.t) : a = b := by
  induction R with
  | nil => cases ha
  | cons x R ih =>
    have h1 := List.pairwise_cons.1 h
    rcases List.mem_cons.1 ha with rfl | ha' <;> rcases List.mem_cons.1 hb with rfl | hb'
    · rfl
    · exact absurd e (h1.1 b hb')
    · exact absurd e.symm (h1.1 a ha')
    · exact ih h1.2 ha' hb'
theorem versR_perm {p : Pln} {l : Stm} {R R' : List Stm} (hu : R.Pairwise fun a b => a.t ≠ b.t) (hp : R.Perm R') : versR p l R = versR p l R' := by
  cases h : versR p l R with
  | none =>
    cases h' : versR p l R' with
    | none => rfl
    | some s =>
      obtain ⟨h1, h2, _⟩ := versR_some h'
      rw [versR_none h s (hp.mem_iff.2 h1)] at h2
      cases h2
  | some s =>
    obtain ⟨h1, h2, h3⟩ := versR_some h
    cases h' : versR p l R' with
    | none =>
      rw [versR_none h' s (hp.mem_iff.1 h1)] at h2
      cases h2
    | some s' =>
      obtain ⟨k1, k2, k3⟩ := versR_some h'
      have k1' := hp.mem_iff.2 k1
      have e1 := h3 s' k1' k2
      have e2 := k3 s (hp.mem_iff.1 h1) h2
      rw [unlike_eq hu h1 k1' (by omega)]
/-- what a left row brings, of Temporal -/
def bring3 (p : Pln) (R : List Stm) (l : Stm) : List (List Cel) := match versR p l R with | some s => [l.r ++ s.r] | none => if keepsL p = true then [l.r ++ nullRow p.right.length] else []
theorem toldL_vers {p : Pln} (hk : p.kind = 3) (R : List Stm) (l : Stm) : toldL p R l = bring3 p R l := by
  unfold toldL bring3 versR partners
  cases hb : hasB p 1 l.r with
  | false => simp
  | true =>
    rw [if_neg (by decide), if_pos hk, if_pos rfl]
    cases versionOf l.t R (placesOf p R (keyOfS p 1 l.r)) with
    | none => simp
    | some k => simp
theorem told_vers {p : Pln} (hk : p.kind = 3) (hm : p.mode ≤ 2) (L R : List Stm) : told p L R = L.flatMap (bring3 p R) := by
  unfold told
  have e : (List.range R.length).flatMap (toldR p L R) = [] := by
    rw [List.flatMap_eq_nil_iff]
    intro k _
    unfold toldR keepsR
    rw [if_neg]
    intro h
    have := of_decide_eq_true h.2
    omega
  rw [e, List.append_nil]
  congr 1
  funext l
  exact toldL_vers hk R l
/-- E5, of Temporal: right rows whose times are all unlike -/
theorem told_perm3 {p : Pln} (hk : p.kind = 3) (hm : p.mode ≤ 2) (L : List Stm) {R R' : List Stm} (hu : R.Pairwise fun a b => a.t ≠ b.t) (hp : R.Perm R') : told p L R = told p L R' := by
  rw [told_vers hk hm, told_vers hk hm]
  congr 1
  funext l
  unfold bring3
  rw [versR_perm hu hp]
/-- E5: left rows, in whatever order -/
theorem told_left {p : Pln} {L L' : List Stm} (h : L.Perm L') (R : List Stm) : (told p L R).Perm (told p L' R) := by
  unfold told
  refine (h.flatMap_right _).append ?_
  have e : toldR p L R = toldR p L' R := by
    funext k
    unfold toldR metB
    rw [any_perm h]
  rw [e]
end Go.Proofs.YtcpanmaahhiioaaGreat.bt
