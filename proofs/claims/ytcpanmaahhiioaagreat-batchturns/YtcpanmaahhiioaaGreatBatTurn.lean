/- With all sides turned round the same rows are told, turned round (E5). No Go in sight. -/
import Derived.Test.YtcpanmaahhiioaaGreatBatParts
namespace Go.Proofs.YtcpanmaahhiioaaGreat.bt
open vl pl
set_option linter.unusedVariables false
set_option linter.unusedSimpArgs false
theorem err_of_ok {p : Pln} (h1 : kindsOk p) (h2 : rangesOk p) (h3 : manyOk p) (h4 : typesOk p) (h5 : formOk p) : planErr p = 0 := by
  unfold planErr
  rw [if_neg (by simp [h1]), if_neg (by simp [h2]), if_neg (by simp [h3]), if_neg (by simp [h4]), if_neg (by simp [h5])]
theorem turn_err {p : Pln} (hk : p.kind ≠ 3) (h : planErr p = 0) : planErr (turnP p) = 0 := by
  obtain ⟨h1, h2, h3, h4, h5⟩ := planErr_ok h
  refine err_of_ok ?_ ?_ ?_ ?_ ?_
  · obtain ⟨a, b, c⟩ := h1
    rw [if_neg hk] at b
    refine ⟨a, ?_, fun hg => by cases hg⟩
    unfold turnP turnM
    dsimp only
    rw [if_neg hk]
    split
    · omega
    · split <;> omega
  · obtain ⟨a, b, c⟩ := h2
    refine ⟨?_, b, c⟩
    unfold turnP
    dsimp only
    by_cases k1 : p.kind = 1
    · rw [if_pos k1] at a ⊢
      unfold fit at *
      omega
    · rw [if_neg k1] at a ⊢
      omega
  · obtain ⟨⟨a, b, c, d⟩, _⟩ := h3
    exact ⟨⟨b, a, d, c⟩, by unfold turnP; dsimp only; rw [if_neg (by decide)]; exact ⟨rfl, rfl⟩⟩
  · intro c hc
    refine h4 c ?_
    unfold cols at *
    unfold turnP at hc
    dsimp only at hc
    rw [List.mem_append] at *
    exact hc.symm
  · obtain ⟨a, ⟨b, c, d, e⟩, _, _⟩ := h5
    refine ⟨?_, ⟨b.symm, d, c, ?_⟩, ⟨fun x hx => (by cases hx), List.Pairwise.nil⟩, fun x hx => by cases hx⟩
    · unfold turnP; dsimp only; omega
    · intro i hi
      unfold turnP at *
      dsimp only at *
      exact (e i (by omega)).symm
theorem typed_ok {p : Pln} {side : Int} {r : List Cel} (h0 : planErr p = 0) : rowErr p side r = rErr p side r := if_pos h0
theorem turn_side1 (p : Pln) : colsOf (turnP p) 1 = colsOf p 2 ∧ keysOf (turnP p) 1 = keysOf p 2 := ⟨rfl, rfl⟩
theorem turn_side2 (p : Pln) : colsOf (turnP p) 2 = colsOf p 1 ∧ keysOf (turnP p) 2 = keysOf p 1 := ⟨rfl, rfl⟩
theorem turn_err1 (p : Pln) (r : List Cel) : rErr (turnP p) 1 r = rErr p 2 r := rfl
theorem turn_err2 (p : Pln) (r : List Cel) : rErr (turnP p) 2 r = rErr p 1 r := rfl
theorem turn_has1 {p : Pln} (hk : p.kind ≠ 3) (h0 : planErr p = 0) (r : List Cel) : hasB (turnP p) 1 r = hasB p 2 r := by
  unfold hasB
  rw [typed_ok (turn_err hk h0), typed_ok h0, turn_err1]
  rfl
theorem turn_has2 {p : Pln} (hk : p.kind ≠ 3) (h0 : planErr p = 0) (r : List Cel) : hasB (turnP p) 2 r = hasB p 1 r := by
  unfold hasB
  rw [typed_ok (turn_err hk h0), typed_ok h0, turn_err2]
  rfl
theorem turn_key1 {p : Pln} (hk : p.kind ≠ 3) (h0 : planErr p = 0) (r : List Cel) : keyOfS (turnP p) 1 r = keyOfS p 2 r := by
  unfold keyOfS
  rw [turn_has1 hk h0]
  rfl
theorem turn_key2 {p : Pln} (hk : p.kind ≠ 3) (h0 : planErr p = 0) (r : List Cel) : keyOfS (turnP p) 2 r = keyOfS p 1 r := by
  unfold keyOfS
  rw [turn_has2 hk h0]
  rfl
theorem pair_turn {p : Pln} (hk : p.kind ≠ 3) (h0 : planErr p = 0) (l s : Stm) : pairB (turnP p) s l = pairB p l s := by
  unfold pairB sameKey
  rw [turn_has1 hk h0, turn_has2 hk h0, turn_key1 hk h0, turn_key2 hk h0, meetT_turn]
  rw [Bool.eq_iff_iff]
  simp only [Bool.and_eq_true, decide_eq_true_eq]
  exact ⟨fun ⟨a, ⟨b, c⟩, d⟩ => ⟨b, ⟨a, c.symm⟩, d⟩, fun ⟨a, ⟨b, c⟩, d⟩ => ⟨b, ⟨a, c.symm⟩, d⟩⟩
theorem keepsL_turn {p : Pln} (h : 1 ≤ p.mode ∧ p.mode ≤ 4) : keepsL (turnP p) = keepsR p ∧ keepsR (turnP p) = keepsL p := by
  unfold keepsL keepsR turnP turnM
  dsimp only
  constructor <;> (rw [Bool.eq_iff_iff]; simp only [decide_eq_true_eq]; split <;> (try split) <;> omega)
theorem map_flat {α β γ : Type} (l : List α) (f : α → List β) (g : β → γ) : (l.flatMap f).map g = l.flatMap (fun a => (f a).map g) := by
  rw [List.map_flatMap]
/-- E5: with all sides turned round the same rows come, turned round -/
theorem told_turn {p : Pln} (hk : p.kind ≠ 3) (h0 : planErr p = 0) (L R : List Stm) (hL : ∀ s ∈ L, s.r.length = p.left.length) (hR : ∀ s ∈ R, s.r.length = p.right.length) :
    ((told (turnP p) R L).map (turnR p.right.length)).Perm (told p L R) := by
  have hkt : (turnP p).kind ≠ 3 := hk
  have hmode := (planErr_ok h0).1.2.1
  rw [if_neg hk] at hmode
  obtain ⟨k1, k2⟩ := keepsL_turn hmode
  refine List.Perm.trans ((told_parts hkt R L).map _) (List.Perm.trans ?_ (told_parts hk L R).symm)
  rw [List.map_append, List.map_append]
  have e1 : ((pairsT (turnP p) R L).map (turnR p.right.length)).Perm (pairsT p L R) := by
    have h1 : (pairsT (turnP p) R L).map (turnR p.right.length) = R.flatMap (fun s => (L.filter (fun l => pairB p l s)).map (fun l => l.r ++ s.r)) := by
      unfold pairsT
      rw [map_flat]
      have gen : ∀ (R' : List Stm), (∀ s ∈ R', s.r.length = p.right.length) → R'.flatMap (fun s => ((L.filter (pairB (turnP p) s)).map (fun l => s.r ++ l.r)).map (turnR p.right.length)) = R'.flatMap (fun s => (L.filter (fun l => pairB p l s)).map (fun l => l.r ++ s.r)) := by
        intro R'
        induction R' with
        | nil => intro _; rfl
        | cons s R' ih =>
          intro h
          rw [List.flatMap_cons, List.flatMap_cons, ih (fun x hx => h x (List.mem_cons_of_mem _ hx)), List.map_map]
          congr 1
          have e : pairB (turnP p) s = fun l => pairB p l s := by funext l; exact pair_turn hk h0 l s
          rw [e]
          apply List.map_congr_left
          intro l _
          show turnR p.right.length (s.r ++ l.r) = l.r ++ s.r
          rw [← h s (List.mem_cons_self ..), turnR_app]
      exact gen R hR
    rw [h1]
    exact (pairs_swap L R (pairB p) (fun l s => l.r ++ s.r)).symm
  have e2 : (aloneL (turnP p) R L).map (turnR p.right.length) = bringR p L R := by
    unfold aloneL bringR
    rw [k1]
    cases keepsR p with
    | false => rfl
    | true =>
      rw [if_pos rfl, if_pos rfl, List.map_map]
      have e : (fun s : Stm => !L.any (pairB (turnP p) s)) = fun s => !L.any (fun l => pairB p l s) := by
        funext s
        congr 2
        funext l
        exact pair_turn hk h0 l s
      rw [e]
      apply List.map_congr_left
      intro s hs
      show turnR p.right.length (s.r ++ nullRow p.left.length) = nullRow p.left.length ++ s.r
      rw [← hR s (List.mem_filter.1 hs).1, turnR_app]
  have e3 : (bringR (turnP p) R L).map (turnR p.right.length) = aloneL p L R := by
    unfold aloneL bringR
    rw [k2]
    cases keepsL p with
    | false => rfl
    | true =>
      rw [if_pos rfl, if_pos rfl, List.map_map]
      have e : (fun l : Stm => !R.any (fun s => pairB (turnP p) s l)) = fun l => !R.any (pairB p l) := by
        funext l
        congr 2
        funext s
        exact pair_turn hk h0 l s
      rw [e]
      apply List.map_congr_left
      intro l hl
      show turnR p.right.length (nullRow p.right.length ++ l.r) = l.r ++ nullRow p.right.length
      have hn : (nullRow p.right.length).length = p.right.length := by simp [nullRow]
      have := turnR_app (nullRow p.right.length) l.r
      rw [hn] at this
      exact this
  rw [e2, e3]
  have h4 : (((pairsT (turnP p) R L).map (turnR p.right.length)) ++ bringR p L R ++ aloneL p L R).Perm (pairsT p L R ++ bringR p L R ++ aloneL p L R) := List.Perm.append (List.Perm.append e1 (List.Perm.refl _)) (List.Perm.refl _)
  refine h4.trans ?_
  rw [List.append_assoc, List.append_assoc]
  exact List.Perm.append (List.Perm.refl _) List.perm_append_comm
end Go.Proofs.YtcpanmaahhiioaaGreat.bt
