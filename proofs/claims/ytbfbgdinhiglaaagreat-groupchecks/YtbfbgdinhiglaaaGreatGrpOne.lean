/- One group of one's own, with two bags, the second of which grows. -/
import Derived.Test.YtbfbgdinhiglaaaGreatGrpIns
import Derived.Test.YtbfbgdinhiglaaaGreatGrpFind
import Derived.Test.YtbfbgdinhiglaaaGreatMgChgB
import Derived.Test.YtbfbgdinhiglaaaGreatMgChgF
namespace Go.Proofs.YtbfbgdinhiglaaaGreat.gr
open Go.ChangeShapes Go.WideShapes Go.ChangeAt Go.RowKit
open vl pl bt
set_option linter.unusedVariables false
set_option linter.unusedSimpArgs false
/-- of different types, different blocks -/
theorem own_apart {w : World} {base base' : Nat} {e e' : TypeId} {s s' : Nat} {v v' : Value} {n n' : Nat} {xs xs' : List Value} (h : w.ownsRow base e s v n xs) (h' : w.ownsRow base' e' s' v' n' xs') (he : e ≠ e') {g : Nat} (hg : v.ownBlock = some g) : v'.ownBlock ≠ some g := fun hg' => by
  rcases h.2 with ⟨rfl, _⟩ | ⟨b, cap, cur, rfl, _, hb, _⟩
  · cases hg
  · rcases h'.2 with ⟨rfl, _⟩ | ⟨b', cap', cur', rfl, _, hb', _⟩
    · cases hg'
    · cases hg
      cases hg'
      rw [hb] at hb'
      injection hb' with e1
      injection e1 with _ e2
      exact he e2
theorem own_cell {w : World} {base : Nat} {e : TypeId} {size n cap g : Nat} {xs : List Value} (h : w.ownsRow base e size (.slice (some ⟨g, 0, none⟩) n cap) n xs) (j : Nat) (u : Value) (hu : xs[j]? = some u) : w.cell? ⟨g, j, none⟩ = some u := by
  have := World.ownsRow.cells h (g := g) rfl j u hu
  rwa [add_off, Nat.zero_add] at this
theorem talCells_len : ∀ (L : List Tal), (talCells L).length = L.length * 4
  | [] => rfl
  | a :: L => by
    have ih := talCells_len L
    have e1 : talCells (a :: L) = .int .i64 a.1.k :: .int .i64 a.1.n :: .string a.1.s :: .int .i64 a.2 :: talCells L := rfl
    rw [e1]
    simp only [List.length_cons, ih]
    omega
structure One (w : World) (base gb gc : Nat) (oa : Option Addr) (oc : Nat) (r : List Cel) (N : Int) (bb : Nat) (ta : Option Addr) (tc : Nat) (L : List Tal) : Prop where
  own : w.ownsRow base 53 3 (.slice (some ⟨gb, 0, none⟩) 1 gc) 1 [.slice oa r.length oc, .int .i64 N, .slice (some ⟨bb, 0, none⟩) 2 2]
  bags : w.ownsRow base 61 1 (.slice (some ⟨bb, 0, none⟩) 2 2) 2 [.slice none 0 0, .slice ta L.length tc]
  tal : ownT w base (.slice ta L.length tc) L
  row : ownV w base (.slice oa r.length oc) r
  low : base ≤ w.heap.size
theorem One.below {w w' : World} {base gb gc : Nat} {oa : Option Addr} {oc : Nat} {r : List Cel} {N : Int} {bb : Nat} {ta : Option Addr} {tc : Nat} {L : List Tal} (h : One w base gb gc oa oc r N bb ta tc L) (hb : Below w.heap.size w w') : One w' base gb gc oa oc r N bb ta tc L :=
  ⟨ch.own_same h.own (fun g hg => hb.block g (ch.own_lt h.own hg).2), ch.own_same h.bags (fun g hg => hb.block g (ch.own_lt h.bags hg).2), ch.own_same h.tal (fun g hg => hb.block g (ch.own_lt h.tal hg).2), ch.own_same h.row (fun g hg => hb.block g (ch.own_lt h.row hg).2), Nat.le_trans h.low hb.size⟩
/-- N is stored -/
theorem One.putN {w : World} {base gb gc : Nat} {oa : Option Addr} {oc : Nat} {r : List Cel} {N : Int} {bb : Nat} {ta : Option Addr} {tc : Nat} {L : List Tal} (h : One w base gb gc oa oc r N bb ta tc L) (M : Int) : One (w.setCell ⟨gb, 1, none⟩ (.int .i64 M)) base gb gc oa oc r M bb ta tc L :=
  ⟨ch.own_set h.own 1 (by omega) _, ch.own_same h.bags (fun g hg => heap_setCell_other _ _ _ _ (fun e => own_apart h.own h.bags (by decide) (show (Value.slice (some ⟨gb, 0, none⟩) 1 gc).ownBlock = some g by rw [e]; rfl) hg)),
    ch.own_same h.tal (fun g hg => heap_setCell_other _ _ _ _ (fun e => own_apart h.own h.tal (by decide) (show (Value.slice (some ⟨gb, 0, none⟩) 1 gc).ownBlock = some g by rw [e]; rfl) hg)),
    ch.own_same h.row (fun g hg => heap_setCell_other _ _ _ _ (fun e => own_apart h.own h.row (by decide) (show (Value.slice (some ⟨gb, 0, none⟩) 1 gc).ownBlock = some g by rw [e]; rfl) hg)), by simpa [World.setCell] using h.low⟩
/-- the bag has grown, and its header is stored -/
theorem One.grow {w w1 w2 : World} {base gb gc : Nat} {oa : Option Addr} {oc : Nat} {r : List Cel} {N : Int} {bb : Nat} {ta : Option Addr} {tc : Nat} {L : List Tal} (h : One w base gb gc oa oc r N bb ta tc L) (hb : Below w.heap.size w w1) {g cap : Nat} {t : Tal}
    (hg : w1.grownBy w2 (Value.slice ta L.length tc).ownBlock) (ho : w2.ownsRow base 82 4 (.slice (some ⟨g, 0, none⟩) (L.length + 1) cap) (L.length + 1) (talCells L ++ [.int .i64 t.1.k, .int .i64 t.1.n, .string t.1.s, .int .i64 t.2])) :
    One (w2.setCell ⟨bb, 1, none⟩ (.slice (some ⟨g, 0, none⟩) (L.length + 1) cap)) base gb gc oa oc r N bb (some ⟨g, 0, none⟩) cap (L ++ [t]) := by
  have h1 := h.below hb
  have stay : ∀ {e : TypeId} {s : Nat} {v : Value} {n : Nat} {xs : List Value}, e ≠ 82 → w1.ownsRow base e s v n xs → w2.ownsRow base e s v n xs := fun {e s v n xs} he hv => ch.own_same hv (fun b hb2 => hg.block b (ch.own_lt hv hb2).2 (fun e1 => own_apart hv h1.tal he hb2 e1.symm))
  have s1 := stay (by decide) h1.own
  have s2 := stay (by decide) h1.bags
  have s4 := stay (by decide) h1.row
  have hl : (L ++ [t]).length = L.length + 1 := by simp
  have hT : ownT w2 base (.slice (some ⟨g, 0, none⟩) (L ++ [t]).length cap) (L ++ [t]) := by unfold ownT; rw [hl, talCells_app]; exact ho
  refine ⟨ch.own_same s1 (fun b hb2 => heap_setCell_other _ _ _ _ (fun e => own_apart s2 s1 (by decide) (show (Value.slice (some ⟨bb, 0, none⟩) 2 2).ownBlock = some b by rw [e]; rfl) hb2)), ?_, ch.own_same hT (fun b hb2 => heap_setCell_other _ _ _ _ (fun e => own_apart s2 hT (by decide) (show (Value.slice (some ⟨bb, 0, none⟩) 2 2).ownBlock = some b by rw [e]; rfl) hb2)),
    ch.own_same s4 (fun b hb2 => heap_setCell_other _ _ _ _ (fun e => own_apart s2 s4 (by decide) (show (Value.slice (some ⟨bb, 0, none⟩) 2 2).ownBlock = some b by rw [e]; rfl) hb2)), by simp [World.setCell]; exact Nat.le_trans h1.low hg.size⟩
  rw [hl]
  exact ch.own_set s2 1 (by omega) _
/-- the last tally's N is stored -/
theorem One.putT {w : World} {base gb gc : Nat} {oa : Option Addr} {oc : Nat} {r : List Cel} {N : Int} {bb g tc : Nat} {L : List Tal} {c : Cel} {m : Int} (h : One w base gb gc oa oc r N bb (some ⟨g, 0, none⟩) tc (L ++ [(c, m)])) (M : Int) : One (w.setCell ⟨g, L.length * 4 + 3, none⟩ (.int .i64 M)) base gb gc oa oc r N bb (some ⟨g, 0, none⟩) tc (L ++ [(c, M)]) := by
  have ht := h.tal
  have hlen : (L ++ [(c, m)]).length = (L ++ [(c, M)]).length := by simp
  have apart : ∀ {e : TypeId} {s : Nat} {v : Value} {n : Nat} {xs : List Value}, e ≠ 82 → w.ownsRow base e s v n xs → (w.setCell ⟨g, L.length * 4 + 3, none⟩ (.int .i64 M)).ownsRow base e s v n xs := fun {e s v n xs} he hv =>
    ch.own_same hv (fun b hb2 => heap_setCell_other _ _ _ _ (fun e1 => own_apart hv ht he hb2 (by rw [e1]; rfl)))
  have hset : talCells (L ++ [(c, M)]) = (talCells (L ++ [(c, m)])).set (L.length * 4 + 3) (.int .i64 M) := by
    have hl4 := talCells_len L
    rw [talCells_app, talCells_app, List.set_append_right _ _ (by omega), hl4, show L.length * 4 + 3 - L.length * 4 = 3 by omega]
    rfl
  refine ⟨apart (by decide) h.own, ?_, ?_, apart (by decide) h.row, by simpa [World.setCell] using h.low⟩
  · have := apart (by decide) h.bags
    rwa [hlen] at this
  · unfold ownT
    rw [hset, ← hlen]
    exact ch.own_set ht (L.length * 4 + 3) (by simp; omega) _
end Go.Proofs.YtbfbgdinhiglaaaGreat.gr
