/- slices.SortFunc by byPlace. -/
import Derived.Test.YtnfknkihiapgiaaBufSort2
import Derived.Test.YtnfknkihiapgiaaSorts
import Derived.Shelf.SlSortCmp.NoneTotal
namespace Go.Proofs.Ytnfknkihiapgiaa.bf
open Go.ChangeShapes Go.WideShapes Go.ChangeAt Go.RowKit Go.Sort Go.Shelf
open vl
set_option linter.unusedVariables false
set_option linter.unusedSimpArgs false
def cfE (a b : EM) : Int := cmpP a.ent b.ent
theorem ltOf_E (a b : EM) : ltOf cfE a b = decide (ltP a.ent b.ent) := lt_cmp a b
theorem swoE : SWO (ltOf cfE) where
  irrefl x := by rw [ltOf_E]; exact decide_eq_false (ltP_irrefl _)
  trans x y z h1 h2 := by
    rw [ltOf_E] at *
    exact decide_eq_true (ltP_trans (of_decide_eq_true h1) (of_decide_eq_true h2))
  ntrans x y z h1 h2 := by
    rw [ltOf_E] at *
    have n1 := of_decide_eq_false h1
    have n2 := of_decide_eq_false h2
    refine decide_eq_false (fun h => ?_)
    rcases ltP_tri x.ent y.ent with h3 | h3 | h3
    · exact n1 h3
    · exact n2 (same_ltP (sameP_symm h3) h)
    · exact n2 (ltP_trans h3 h)
theorem cmpE (g off size : Nat) (w : World) : CmpLays Try.prog 38 #[] encE 5 cfE g off size w := by
  intro m os dk _ x y
  rw [Array.append_empty]
  exact byPlace_lays x y _
theorem ltP_or {w w' : World} {base base' : Nat} {e f : EM} {x y : Ent} (h : OR w base e x) (k : OR w' base' f y) : ltP e.ent f.ent ↔ ltP x y := by
  unfold ltP EM.ent
  simp only [h.key, h.time, h.seq, k.key, k.time, k.seq]
set_option maxHeartbeats 2000000 in
theorem sort_any (base : Nat) (v : Value) (es : List EM) (l : List Ent) (w : World) (h : OE w base v es l) (hl : es.length ≤ 1000000) :
    Calls Try.prog 37 #[v, .func (.func 38) #[] #[]] w fun e w' => e = .returned (.tuple #[]) ∧ ∃ es' l', l'.Perm l ∧ (∀ i j, i < j → j < l'.length → ¬ ltP (l'.getD j default) (l'.getD i default)) ∧ OE w' base v es' l' ∧ Below base w w' ∧ (∀ b, b < w.heap.size → v.ownBlock ≠ some b → w'.heap[b]? = w.heap[b]?) := by
  rcases h.own.2 with ⟨hv, h0⟩ | ⟨g, cap, cur, hv, h1, hg, _⟩
  · subst hv
    refine (AnyF.slices_SortFunc_none Try.sortE none 0 (.func (.func 38) #[] #[]) w).mono ?_
    rintro e w' ⟨rfl, rfl⟩
    exact ⟨rfl, es, l, List.Perm.refl _, fun i j hij hj => by rw [← h.len, h0] at hj; omega, h, Below.refl _ _, fun _ _ _ => rfl⟩
  · subst hv
    have hlt : g < w.heap.size := (Array.getElem?_eq_some_iff.1 hg).1
    have eg : ∀ args w, (callFunc 38 args).run Try.prog w = .ok (.enter 38 args) w := enters_of Try.func38 (by kernel_rfl) rfl
    have hc := AnyQ.slices_SortFunc Try.sortE 5 Try.isAgg28 Try.sizeOf28 encE encE_len encE_one cfE swoE 38 #[] g 0 cap es.toArray w eg (cmpE g 0 es.toArray.size w) (holds_own h.own) hlt (by simp; omega)
    rw [List.size_toArray] at hc
    refine Calls.mono hc ?_
    rintro e w' ⟨rfl, d', n, os, hp, hs, rfl⟩
    obtain ⟨d', rfl⟩ : ∃ z : List EM, d' = z.toArray := ⟨d'.toList, by simp⟩
    have hdl : d'.length = es.length := by have := hp.1; simpa using this
    have hpp : d'.Perm es := by
      have := hp.2.2
      simpa [hdl, List.take_of_length_le] using this
    obtain ⟨l', pl, hoe⟩ := OE_sorted (n := n) (os := os) h hpp
    refine ⟨rfl, d', l', pl, fun i j hij hj => ?_, hoe, sw_below h1 h.low, fun b hb hne => sw_heap hb (fun e => hne (by rw [e]; rfl))⟩
    have hjd : j < d'.length := by rw [hoe.len]; exact hj
    have := hs i j (Nat.zero_le _) hij (by rw [← hdl]; exact hjd)
    rw [get_toArray d' j hjd, get_toArray d' i (by omega), ltOf_E] at this
    have hn := of_decide_eq_false this
    exact fun hlt' => hn ((ltP_or (hoe.rows j hj) (hoe.rows i (by omega))).2 hlt')
end Go.Proofs.Ytnfknkihiapgiaa.bf
