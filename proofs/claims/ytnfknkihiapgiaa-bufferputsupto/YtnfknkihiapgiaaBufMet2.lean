/- The parts of a buffer of one's own, as lists: an entry of one of them is met. -/
import Derived.Test.YtnfknkihiapgiaaBufMet
namespace Go.Proofs.Ytnfknkihiapgiaa.bf
open Go.ChangeShapes Go.WideShapes Go.ChangeAt Go.RowKit
open vl
set_option linter.unusedVariables false
set_option linter.unusedSimpArgs false
def hd0 : Hdr := (none, 0, 0)
structure OP (w : World) (base : Nat) (hs : List Hdr) (ess : List (List EM)) (ls : List (List Ent)) : Prop where
  low : base ≤ w.heap.size
  l1 : ess.length = hs.length
  l2 : ls.length = hs.length
  oe : ∀ k, k < hs.length → OE w base (hdV (hs.getD k hd0)) (ess.getD k []) (ls.getD k [])
  two : (hs.map hdV).Pairwise apB
theorem apB_symm {a b : Value} (h : apB a b) : apB b a := fun g h1 h2 => h g h2 h1
theorem OP.apart {w : World} {base : Nat} {hs : List Hdr} {ess : List (List EM)} {ls : List (List Ent)} (h : OP w base hs ess ls) {j k : Nat} (hj : j < hs.length) (hk : k < hs.length) (hne : j ≠ k) : apB (hdV (hs.getD j hd0)) (hdV (hs.getD k hd0)) := by
  have hp := List.pairwise_iff_getElem.1 h.two
  have e : ∀ i (hi : i < hs.length), hdV (hs.getD i hd0) = (hs.map hdV)[i]'(by rw [List.length_map]; exact hi) := fun i hi => by
    rw [List.getElem_map, List.getD_eq_getElem?_getD, List.getElem?_eq_getElem hi]; rfl
  rw [e j hj, e k hk]
  rcases Nat.lt_or_gt_of_ne hne with h1 | h1
  · exact hp _ _ _ _ h1
  · exact apB_symm (hp _ _ _ _ h1)
theorem hd_slice {w : World} {base : Nat} {h : Hdr} {es : List EM} {l : List Ent} (ho : OE w base (hdV h) es l) (hl : 0 < l.length) : ∃ g, h = (some ⟨g, 0, none⟩, es.length, h.2.2) := by
  obtain ⟨a, n, c⟩ := h
  rcases ho.own.2 with ⟨_, h0⟩ | ⟨g, cap, cur, hv, _⟩
  · rw [← ho.len, h0] at hl; exact absurd hl (Nat.lt_irrefl _)
  · unfold hdV at hv
    injection hv with e1 e2 e3
    dsimp only at e1 e2
    subst e1 e2
    exact ⟨g, rfl⟩
theorem OP_met {w : World} {base k i g : Nat} {hs : List Hdr} {ess : List (List EM)} {ls : List (List Ent)} (h : OP w base hs ess ls) (hk : k < hs.length) (hi : i < (ls.getD k []).length) (hg : (hs.getD k hd0).1 = some ⟨g, 0, none⟩) :
    OP (w.setCell ⟨g, i * 5 + 4, none⟩ (.bool true)) base hs (ess.set k ((ess.getD k []).set i ((ess.getD k []).getD i default).meet)) (ls.set k ((ls.getD k []).set i ((ls.getD k []).getD i default).meet)) := by
  have hok := h.oe k hk
  obtain ⟨g', hh⟩ := hd_slice hok (by omega)
  have eg : g' = g := by rw [hh] at hg; cases hg; rfl
  subst eg
  have hv : hdV (hs.getD k hd0) = .slice (some ⟨g', 0, none⟩) (ess.getD k []).length (hs.getD k hd0).2.2 := by rw [hh]; rfl
  have hok2 := hok
  rw [hv] at hok2
  refine ⟨by simpa [World.setCell] using h.low, by rw [List.length_set]; exact h.l1, by rw [List.length_set]; exact h.l2, fun j hj => ?_, h.two⟩
  by_cases e : k = j
  · subst e
    rw [getD_set_same (by rw [h.l1]; exact hk), getD_set_same (by rw [h.l2]; exact hk), hv]
    exact OE_met hok2 hi
  · rw [getD_set_other e, getD_set_other e]
    refine OE_stay (h.oe j hj) hok2 (fun e2 => ?_) _
    have := h.apart hj hk (fun e' => e e'.symm) g' e2
    rw [hv] at this
    exact this rfl
theorem OP.below {w w' : World} {base : Nat} {hs : List Hdr} {ess : List (List EM)} {ls : List (List Ent)} (h : OP w base hs ess ls) (hb : Below w.heap.size w w') : OP w' base hs ess ls :=
  ⟨Nat.le_trans h.low hb.size, h.l1, h.l2, fun k hk => (h.oe k hk).below hb, h.two⟩
theorem OP_of {w : World} {base : Nat} {x : BX} {b : Buf} (h : OB w base x b) : OP w base ((x.m :: x.rs).map (·.1)) ((x.m :: x.rs).map (·.2)) (partsB b) := by
  refine ⟨h.low, by simp, by simp [partsB, h.rlen], fun k hk => ?_, by rw [List.map_map]; exact h.two⟩
  cases k with
  | zero => exact h.mem
  | succ k =>
    have hk' : k < x.rs.length := by simpa using hk
    have hr := h.runs k (by rw [← h.rlen]; exact hk')
    have e1 : ((x.m :: x.rs).map (·.1)).getD (k + 1) hd0 = (x.rs.getD k default).1 := by
      simp [List.getD_eq_getElem?_getD, hk']
    have e2 : ((x.m :: x.rs).map (·.2)).getD (k + 1) [] = (x.rs.getD k default).2 := by
      simp [List.getD_eq_getElem?_getD, hk']
    have e3 : (partsB b).getD (k + 1) [] = b.runs.getD k default := by
      unfold partsB; rw [List.getD_cons_succ]; rfl
    rw [e1, e2, e3]
    exact hr
end Go.Proofs.Ytnfknkihiapgiaa.bf
