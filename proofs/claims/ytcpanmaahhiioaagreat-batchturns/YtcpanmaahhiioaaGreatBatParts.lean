/- What a join tells, in three parts; turned round. No Go in sight. -/
import Derived.Test.YtcpanmaahhiioaaGreatMgBatA
namespace Go.Proofs.YtcpanmaahhiioaaGreat.bt
open vl pl
set_option linter.unusedVariables false
set_option linter.unusedSimpArgs false
def pairsT (p : Pln) (L R : List Stm) : List (List Cel) := L.flatMap (fun l => (R.filter (pairB p l)).map (fun s => l.r ++ s.r))
def aloneL (p : Pln) (L R : List Stm) : List (List Cel) := if keepsL p = true then (L.filter (fun l => !R.any (pairB p l))).map (fun l => l.r ++ nullRow p.right.length) else []
theorem flatMap_app {α β : Type} (l : List α) (f g : α → List β) : (l.flatMap (fun a => f a ++ g a)).Perm (l.flatMap f ++ l.flatMap g) := by
  induction l with
  | nil => exact List.Perm.refl _
  | cons a l ih =>
    rw [List.flatMap_cons, List.flatMap_cons, List.flatMap_cons]
    have h1 : (f a ++ g a ++ l.flatMap (fun a => f a ++ g a)).Perm (f a ++ g a ++ (l.flatMap f ++ l.flatMap g)) := List.Perm.append (List.Perm.refl _) ih
    refine h1.trans ?_
    have h2 : (g a ++ (l.flatMap f ++ l.flatMap g)).Perm (l.flatMap f ++ (g a ++ l.flatMap g)) := by
      rw [← List.append_assoc, ← List.append_assoc]
      exact List.Perm.append (List.perm_append_comm) (List.Perm.refl _)
    have h3 := List.Perm.append (List.Perm.refl (f a)) h2
    simpa [List.append_assoc] using h3
theorem filter_nil_any {α : Type} (l : List α) (q : α → Bool) : l.filter q = [] ↔ l.any q = false := by
  rw [List.filter_eq_nil_iff, List.any_eq_false]
theorem alone_flat {p : Pln} (L R : List Stm) : L.flatMap (fun l => if R.filter (pairB p l) = [] ∧ keepsL p = true then [l.r ++ nullRow p.right.length] else []) = aloneL p L R := by
  unfold aloneL
  cases hk : keepsL p with
  | false =>
    rw [if_neg (by decide), List.flatMap_eq_nil_iff]
    intro l _
    rw [if_neg (fun h => absurd h.2 (by decide))]
  | true =>
    rw [if_pos rfl]
    induction L with
    | nil => rfl
    | cons l L ih =>
      rw [List.flatMap_cons, ih, List.filter_cons]
      cases ha : R.any (pairB p l) with
      | true =>
        have h1 : ¬ R.filter (pairB p l) = [] := fun h => by rw [filter_nil_any, ha] at h; cases h
        rw [if_neg (fun h => h1 h.1)]
        simp
      | false =>
        rw [if_pos ⟨(filter_nil_any _ _).2 ha, rfl⟩]
        simp
theorem told_parts {p : Pln} (hk : p.kind ≠ 3) (L R : List Stm) : (told p L R).Perm (pairsT p L R ++ aloneL p L R ++ bringR p L R) := by
  rw [told_pair hk]
  refine List.Perm.append ?_ (List.Perm.refl _)
  have h := flatMap_app L (fun l => (R.filter (pairB p l)).map (fun s => l.r ++ s.r)) (fun l => if R.filter (pairB p l) = [] ∧ keepsL p = true then [l.r ++ nullRow p.right.length] else [])
  rw [alone_flat] at h
  exact h
/-- two ways through all pairs -/
theorem pairs_swap {α β γ : Type} (A : List α) (B : List β) (q : α → β → Bool) (f : α → β → γ) :
    (A.flatMap (fun a => (B.filter (q a)).map (f a))).Perm (B.flatMap (fun b => (A.filter (fun a => q a b)).map (fun a => f a b))) := by
  induction A with
  | nil =>
    have : B.flatMap (fun b => (([] : List α).filter (fun a => q a b)).map (fun a => f a b)) = [] := by
      rw [List.flatMap_eq_nil_iff]; intro b _; rfl
    rw [this]; exact List.Perm.refl _
  | cons a A ih =>
    rw [List.flatMap_cons]
    have h1 : (B.flatMap (fun b => ((a :: A).filter (fun a => q a b)).map (fun a => f a b))) = B.flatMap (fun b => (if q a b = true then [f a b] else []) ++ (A.filter (fun a => q a b)).map (fun a => f a b)) := by
      congr 1
      funext b
      rw [List.filter_cons]
      cases q a b <;> simp
    rw [h1]
    refine List.Perm.trans ?_ (flatMap_app B _ _).symm
    refine List.Perm.append ?_ ih
    have h2 : B.flatMap (fun b => if q a b = true then [f a b] else []) = (B.filter (q a)).map (f a) := by
      clear h1 ih
      induction B with
      | nil => rfl
      | cons b B ihB =>
        rw [List.flatMap_cons, ihB, List.filter_cons]
        cases q a b <;> simp
    rw [h2]
    
/-- a plan whose sides are turned round -/
def turnM (m : Int) : Int := if m = 2 then 3 else if m = 3 then 2 else m
def turnP (p : Pln) : Pln := ⟨p.kind, turnM p.mode, -p.high, -p.low, p.size, p.limit, p.right, p.left, p.rkeys, p.lkeys, false, [], []⟩
def turnR (n : Nat) (r : List Cel) : List Cel := r.drop n ++ r.take n
theorem turnR_app (a b : List Cel) : turnR a.length (a ++ b) = b ++ a := by
  unfold turnR
  rw [List.drop_left, List.take_left]
theorem meetT_turn (p : Pln) (l r : Int) : meetT (turnP p) r l = meetT p l r := by
  unfold meetT turnP
  dsimp only
  split
  · unfold tm.meetB
    rw [Bool.eq_iff_iff]
    simp only [decide_eq_true_eq]
    omega
  · rw [Bool.eq_iff_iff]
    simp only [decide_eq_true_eq]
    exact ⟨fun h => h.symm, fun h => h.symm⟩
end Go.Proofs.YtcpanmaahhiioaaGreat.bt
