/- A list of changes that a slot holds; a row's front and back. -/
import Derived.Test.YtcpanmaahhiioaaGreatMgBatB
import Derived.Test.YtcpanmaahhiioaaGreatMgChgD
namespace Go.Proofs.YtcpanmaahhiioaaGreat.bt
open Go.ChangeShapes Go.WideShapes Go.ChangeAt Go.RowKit Go.Maps Go.WideMaps
open vl pl
set_option linter.unusedVariables false
set_option linter.unusedSimpArgs false
/-- the value v is the changes l, in memory from base on -/
def CL (w : World) (base : Nat) (v : Value) (l : List ch.Chg) : Prop := ch.CR w base v (fun g => v.ownBlock = some g) l
theorem CL_start (w : World) (base : Nat) : CL w base (.slice none 0 0) [] := ⟨[], rfl, World.ownsRow_nil _ _ _ _, fun i hi => absurd hi (Nat.not_lt_zero i)⟩
theorem CL_below {w w' : World} {base : Nat} {v : Value} {l : List ch.Chg} (h : CL w base v l) (hb : Below w.heap.size w w') : CL w' base v l := by
  obtain ⟨p, h1, h2, h3⟩ := h
  refine ⟨p, h1, ch.own_same h2 (fun g hg => hb.block g (ch.own_lt h2 hg).2), ?_⟩
  intro i hi
  obtain ⟨e1, ad, cap, e2, e3, e4⟩ := h3 i hi
  exact ⟨e1, ad, cap, e2, ch.own_same e3 (fun g hg => hb.block g (ch.own_lt e3 hg).2), e4⟩
theorem CL_form {w : World} {base : Nat} {v : Value} {l : List ch.Chg} (h : CL w base v l) : ∃ ad cap, v = .slice ad l.length cap ∧ ch.chgsAt w ad l := by
  obtain ⟨p, h1, h2, h3⟩ := h
  obtain ⟨ad, cap, e, _⟩ := ch.row_form h2
  subst e
  obtain ⟨k1, k2⟩ := ch.CR_chgs (no := fun g => (Value.slice ad p.length cap).ownBlock = some g) ⟨p, h1, h2, h3⟩
  exact ⟨ad, cap, by rw [h1], k1⟩
/-- one change more -/
theorem CL_step {w w1 w2 : World} {base : Nat} {v : Value} {l : List ch.Chg} {p : List (Int × Value)} {r : List Cel} {n : Int} {ad : Option Addr} {cap g cap2 : Nat} (hlow : base ≤ w.heap.size)
    (hpl : p.length = l.length) (hpo : w.ownsRow base 48 2 v p.length (ch.flatC p)) (hpr : ch.rowsC w base (fun g => v.ownBlock = some g) p l)
    (hb1 : Below w.heap.size w w1) (hov : ownV w1 w.heap.size (.slice ad r.length cap) r) (hown2 : w2.ownsRow base 48 2 (.slice (some ⟨g, 0, none⟩) (p.length + 1) cap2) (p.length + 1) (ch.flatC (p ++ [(n, .slice ad r.length cap)])))
    (hg2 : (w1.alloc (.cells #[.int .i64 n, .slice ad r.length cap] 48)).grownBy w2 v.ownBlock) (hat : v.ownBlock = some g ∨ g = w1.heap.size + 1) :
    CL w2 base (.slice (some ⟨g, 0, none⟩) (p.length + 1) cap2) (l ++ [⟨n, r⟩]) := by
  have hs1 : w.heap.size ≤ w1.heap.size := hb1.size
  have hvlt : ∀ b, v.ownBlock = some b → base ≤ b ∧ b < w.heap.size := fun b hb => ch.own_lt hpo hb
  have hblk : ∀ b, b < w1.heap.size → v.ownBlock ≠ some b → w2.heap[b]? = w1.heap[b]? := fun b hb ho => by
    rw [hg2.block b (by simp; omega) (fun e => ho e.symm)]
    exact Below.heap_alloc _ _ b hb
  refine ⟨p ++ [(n, .slice ad r.length cap)], by rw [List.length_append, List.length_append, hpl]; rfl, ?_, ?_⟩
  · rw [List.length_append]
    exact hown2
  · intro i hi
    rw [List.length_append] at hi
    by_cases hlt : i < l.length
    · rw [ch.getD_snoc_lt l _ _ i hlt, ch.getD_snoc_lt p _ _ i (by omega)]
      obtain ⟨e1, ad', cap', e2, e3, e4⟩ := hpr i hlt
      refine ⟨e1, ad', cap', e2, ?_, ?_⟩
      · refine ch.own_same e3 (fun b hb => ?_)
        have hbb := ch.own_lt e3 hb
        exact (hblk b (by omega) (e4 b hb)).trans (hb1.block b hbb.2)
      · intro b hb e
        have hbg : g = b := by cases e; rfl
        subst hbg
        rcases hat with h1 | h1
        · exact e4 g hb h1
        · have := (ch.own_lt e3 hb).2; omega
    · have hie : i = l.length := by simp at hi; omega
      rw [ch.getD_snoc_at l _ _ i hie, ch.getD_snoc_at p _ _ i (by omega)]
      refine ⟨rfl, ad, cap, rfl, ?_, ?_⟩
      · refine ch.own_same (World.ownsRow.mono hov hlow) (fun b hb => ?_)
        have hbb := ch.own_lt hov hb
        exact hblk b hbb.2 (fun e => by have := (hvlt b e).2; omega)
      · intro b hb e
        have hbb := ch.own_lt hov hb
        have hbg : g = b := by cases e; rfl
        subst hbg
        rcases hat with h1 | h1
        · have := (hvlt g h1).2; omega
        · omega
theorem sizeVv (w : World) : (sizeOf 62).run Tryz.prog w = .ok 3 w := by kernel_rfl
theorem elemVv : Tryz.prog.elem 43 = 62 := by kernel_rfl
theorem undVv : Tryz.prog.underlying 43 = some (.slice (Tryz.prog.elem 43)) := by rw [elemVv]; exact Tryz.underlying43
/-- a row's front -/
theorem rowFront (a : Option Addr) (n cap k : Nat) (hk : k ≤ n) (hn : n ≤ cap) : ∃ a1, (∀ w, (Instr.sliceAt 43 (.slice a n cap) none (some (.int .i64 k)) none).run Tryz.prog w = .ok (.slice a1 k cap) w) ∧ ∀ (w : World) (l : List Cel), l.length = n → vl.rowAt w a l → vl.rowAt w a1 (l.take k) := by
  refine ⟨if cap = 0 then a else a.map (·.add (0 * 3)), ?_, ?_⟩
  · intro w
    rw [run_sliceAt_slice (t := 43) (h := undVv), run_slice_h (t := 43) (ht := undVv) (h0 := by omega) (h2 := by omega), elemVv, sizeVv]
    simp [Result.andThen, sliced]
  · intro w l hl h i hi
    rw [List.length_take] at hi
    obtain ⟨b, o, e, x1, x2, x3⟩ := h i (by omega)
    have eg : (l.take k).getD i default = l.getD i default := by
      simp only [List.getD_eq_getElem?_getD, List.getElem?_take]; rw [if_pos (by omega)]
    rw [eg]
    refine ⟨b, o, ?_, x1, x2, x3⟩
    rw [e, if_neg (by omega)]
    simp [Addr.add]
/-- a row's back -/
theorem rowBack (a : Option Addr) (n cap k : Nat) (hk : k ≤ n) (hn : n ≤ cap) : ∃ a2 cap2, (∀ w, (Instr.sliceAt 43 (.slice a n cap) (some (.int .i64 k)) none none).run Tryz.prog w = .ok (.slice a2 (n - k) cap2) w) ∧ ∀ (w : World) (l : List Cel), l.length = n → vl.rowAt w a l → vl.rowAt w a2 (l.drop k) := by
  refine ⟨if cap = k then a else a.map (·.add (k * 3)), cap - k, ?_, ?_⟩
  · intro w
    rw [run_sliceAt_slice (t := 43) (h := undVv), run_slice_l (t := 43) (ht := undVv) (h0 := by omega) (h1 := by omega), elemVv, sizeVv]
    simp [Result.andThen, sliced]
  · intro w l hl h i hi
    rw [List.length_drop] at hi
    obtain ⟨b, o, e, x1, x2, x3⟩ := h (k + i) (by omega)
    have eg : (l.drop k).getD i default = l.getD (k + i) default := by
      simp only [List.getD_eq_getElem?_getD, List.getElem?_drop]
    rw [eg]
    have ea : o + (k + i) * 3 = o + k * 3 + i * 3 := by omega
    rw [ea] at x1 x2 x3
    refine ⟨b, o + k * 3, ?_, x1, x2, x3⟩
    rw [e, if_neg (by omega)]
    simp [Addr.add]
end Go.Proofs.YtcpanmaahhiioaaGreat.bt
