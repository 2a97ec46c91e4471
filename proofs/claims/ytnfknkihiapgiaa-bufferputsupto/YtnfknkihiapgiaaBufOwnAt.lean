/- A buffer of one's own is a buffer in memory. -/
import Derived.Test.YtnfknkihiapgiaaBufMet2
namespace Go.Proofs.Ytnfknkihiapgiaa.bf
open Go.ChangeShapes Go.WideShapes Go.ChangeAt Go.RowKit
open vl
set_option linter.unusedVariables false
set_option linter.unusedSimpArgs false
theorem own_small {w : World} {base : Nat} {e : TypeId} {s : Nat} {v : Value} {n : Nat} {xs : List Value} (h : w.ownsRow base e s v n xs) : n ≤ maxLen := by
  rcases h.2 with ⟨_, h0⟩ | ⟨g, cap, cur, _, _, _, h2, h3, _⟩
  · rw [h0]; exact Nat.zero_le _
  · exact Nat.le_trans h2 h3
theorem OE_part {w : World} {base : Nat} {p : Part} {l : List Ent} (h : OE w base (hdV p.1) p.2 l) : (p.1.2.1 = p.2.length ∧ p.2.length ≤ 9223372036854775807) ∧ emsAt w p.1.1 p.2 := by
  obtain ⟨⟨a, n, c⟩, es⟩ := p
  have hn : n = es.length := by
    obtain ⟨ad, cp, hf⟩ := h.form
    unfold hdV at hf
    injection hf with _ e2 _
  subst hn
  refine ⟨⟨rfl, ?_⟩, ?_⟩
  · have := own_small h.own
    unfold maxLen at this
    dsimp only at this ⊢
    omega
  · exact OE.at h
theorem OB.at {w : World} {base : Nat} {x : BX} {b : Buf} (h : OB w base x b) : bufAt w b x := by
  have hp : ∀ p ∈ x.m :: x.rs, ∃ l, OE w base (hdV p.1) p.2 l := fun p hp => by
    rcases List.mem_cons.1 hp with rfl | hp
    · exact ⟨_, h.mem⟩
    · obtain ⟨i, _, _, hr⟩ := h.run hp
      exact ⟨_, hr⟩
  refine ⟨fun i hi => ?_, fun p hpm => ?_, fun p hpm => ?_, ?_, h.mem.ers, h.rlen, fun i hi => (h.runs i hi).ers⟩
  · rw [List.length_map] at hi
    rcases h.hds.2 with ⟨_, h0⟩ | ⟨g, cap, cur, hv, _⟩
    · omega
    · injection hv with e1 _ _
      refine ⟨g, 0, e1, ?_⟩
      have hc := World.ownsRow.cells h.hds (g := g) (by rw [e1]; rfl) i (hdV (x.rs[i]).1) (by rw [List.getElem?_map, List.getElem?_eq_getElem hi]; rfl)
      rw [add_at] at hc
      rw [List.getD_eq_getElem?_getD, List.getElem?_map, List.getElem?_eq_getElem hi]
      exact hc
  · obtain ⟨l, ho⟩ := hp p hpm
    exact (OE_part ho).1
  · obtain ⟨l, ho⟩ := hp p hpm
    exact (OE_part ho).2
  · have := own_small h.hds
    unfold maxLen at this
    omega
end Go.Proofs.Ytnfknkihiapgiaa.bf
