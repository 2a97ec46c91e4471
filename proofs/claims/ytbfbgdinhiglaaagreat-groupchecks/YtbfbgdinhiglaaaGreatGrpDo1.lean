/- The first row comes to no groups: do. -/
import Derived.Test.YtbfbgdinhiglaaaGreatGrpComes
import Derived.Test.YtbfbgdinhiglaaaGreatMgPlnG
namespace Go.Proofs.YtbfbgdinhiglaaaGreat.gr
open Go.ChangeShapes Go.WideShapes Go.ChangeAt Go.RowKit
open vl pl bt
set_option linter.unusedVariables false
set_option linter.unusedSimpArgs false
attribute [local go_sem] Oper.semAt_some
theorem search_none (ad : Option Addr) (cap : Nat) (ra : Option Addr) (rn rc : Nat) (w : World) :
    Calls Tryz.prog 81 #[.slice ad 0 cap, .slice ra rn rc, .func (.func 82) #[] #[]] w fun e w' => e = .returned (.tuple #[.int .i64 0, .bool false]) ∧ Below w.heap.size w w' := by
  refine (searchG_any 82 (enters_of Tryz.func82 (by kernel_rfl) rfl) (fun _ => 0) ad cap [] [] ra rn rc w (by decide) ⟨rfl, fun i hi => absurd hi (Nat.not_lt_zero i), fun i hi => absurd hi (Nat.not_lt_zero i)⟩ (fun i w1 hi _ => absurd hi (Nat.not_lt_zero i)) (fun a b _ hb _ => absurd hb (Nat.not_lt_zero b))).mono ?_
  rintro e w' ⟨⟨i, hi, rfl, _, _⟩, hb⟩
  have : i = 0 := by simpa using hi
  subst this
  exact ⟨by simp, hb⟩
/-- a block that is made now is one's own -/
theorem own_new {w : World} {base : Nat} (hb : base ≤ w.heap.size) (T : TypeId) (x y : Value) : (w.alloc (.cells #[x, y] T)).ownsRow base T 1 (.slice (some ⟨w.heap.size, 0, none⟩) 2 2) 2 [x, y] :=
  ⟨rfl, .inr ⟨w.heap.size, 2, #[x, y], rfl, hb, (by show (w.heap.push _)[w.heap.size]? = _; simp), Nat.le_refl _, by decide, rfl, rfl⟩⟩
set_option maxHeartbeats 1000000 in
theorem ins_first (W0 w : World) (hbW : Below W0.heap.size W0 w) (ad : Option Addr) (cap : Nat) (hown : w.ownsRow W0.heap.size 53 3 (.slice ad 0 cap) 0 []) (oa : Option Addr) (oc : Nat) (r : List Cel) (hrow : ownV w W0.heap.size (.slice oa r.length oc) r) :
    Calls Tryz.prog 85 #[.slice ad 0 cap, .int .i64 0, .slice (some ⟨w.heap.size + 1, 0, none⟩) 1 1] ((w.alloc (.cells #[.slice none 0 0, .slice none 0 0] 61)).alloc (.cells #[.slice oa r.length oc, .int .i64 0, .slice (some ⟨w.heap.size, 0, none⟩) 2 2] 53)) fun e w' =>
      ∃ g cap2, e = .returned (.slice (some ⟨g, 0, none⟩) 1 cap2) ∧ One w' W0.heap.size g cap2 oa oc r 0 w.heap.size none 0 [] ∧ Below W0.heap.size W0 w' ∧ (∀ B, B < w.heap.size → (Value.slice ad 0 cap).ownBlock ≠ some B → w'.heap[B]? = w.heap[B]?) ∧ w.heap.size ≤ w'.heap.size ∧ (∀ B, B < w.heap.size → (Value.slice ad 0 cap).ownBlock ≠ some B → B ≠ g) := by
  have hlow : W0.heap.size ≤ w.heap.size := hbW.size
  have b1 : Below w.heap.size w (w.alloc (.cells #[.slice none 0 0, .slice none 0 0] 61)) := (Below.refl _ _).alloc (Nat.le_refl _) _
  have b2 : Below (w.heap.size + 1) (w.alloc (.cells #[.slice none 0 0, .slice none 0 0] 61)) ((w.alloc (.cells #[.slice none 0 0, .slice none 0 0] 61)).alloc (.cells #[.slice oa r.length oc, .int .i64 0, .slice (some ⟨w.heap.size, 0, none⟩) 2 2] 53)) := (Below.refl _ _).alloc (by simp) _
  have hbags := own_new hlow 61 (.slice none 0 0) (.slice none 0 0)
  have hbags2 := ch.own_same hbags (fun g hg => b2.block g (by have := (ch.own_lt hbags hg).2; simpa using this))
  have b12 : Below w.heap.size w _ := b1.trans (b2.mono (Nat.le_succ _))
  have hown2 := ch.own_same hown (fun g hg => b12.block g (ch.own_lt hown hg).2)
  have hrow2 := ch.own_same hrow (fun g hg => b12.block g (ch.own_lt hrow hg).2)
  have c0 : ((w.alloc (.cells #[.slice none 0 0, .slice none 0 0] 61)).alloc (.cells #[.slice oa r.length oc, .int .i64 0, .slice (some ⟨w.heap.size, 0, none⟩) 2 2] 53)).cell? ⟨w.heap.size + 1, 0, none⟩ = some (.slice oa r.length oc) := by go_simp
  have c1 : ((w.alloc (.cells #[.slice none 0 0, .slice none 0 0] 61)).alloc (.cells #[.slice oa r.length oc, .int .i64 0, .slice (some ⟨w.heap.size, 0, none⟩) 2 2] 53)).cell? ⟨w.heap.size + 1, 1, none⟩ = some (.int .i64 0) := by go_simp
  have c2 : ((w.alloc (.cells #[.slice none 0 0, .slice none 0 0] 61)).alloc (.cells #[.slice oa r.length oc, .int .i64 0, .slice (some ⟨w.heap.size, 0, none⟩) 2 2] 53)).cell? ⟨w.heap.size + 1, 2, none⟩ = some (.slice (some ⟨w.heap.size, 0, none⟩) 2 2) := by go_simp
  generalize hW : ((w.alloc (.cells #[.slice none 0 0, .slice none 0 0] 61)).alloc (.cells #[.slice oa r.length oc, .int .i64 0, .slice (some ⟨w.heap.size, 0, none⟩) 2 2] 53)) = W at *
  have hsz : W.heap.size = w.heap.size + 1 + 1 := by rw [← hW]; simp
  refine (insG_end ad 0 cap [] W0.heap.size (w.heap.size + 1) oa r.length oc 0 (some ⟨w.heap.size, 0, none⟩) 2 2 W hown2 (by decide) (by omega) c0 c1 c2).mono ?_
  rintro e w' ⟨g, cap2, rfl, h1, h2, h3, h4⟩
  have stay : ∀ {e : TypeId} {s : Nat} {v : Value} {n : Nat} {xs : List Value}, e ≠ 53 → W.ownsRow W0.heap.size e s v n xs → w'.ownsRow W0.heap.size e s v n xs := fun {e s v n xs} he hv => ch.own_same hv (fun b hb2 => h2.block b (ch.own_lt hv hb2).2 (fun e1 => own_apart hv hown2 he hb2 e1.symm))
  have hsz2 := h2.size
  refine ⟨g, cap2, rfl, ⟨h1, stay (by decide) hbags2, World.ownsRow_nil _ _ _ _, stay (by decide) hrow2, by omega⟩, (hbW.trans (b12.mono hlow)).grown h2 (by omega) (fun k hk => (ch.own_lt hown2 hk).1), fun B hB h => ?_, by omega, fun B hB h e => ?_⟩
  · rw [h2.block B (by omega) (fun e => h e.symm)]
    exact b12.block B hB
  · rcases h3 with h3 | h3
    · exact h (by rw [e]; exact h3)
    · omega
end Go.Proofs.YtbfbgdinhiglaaaGreat.gr
