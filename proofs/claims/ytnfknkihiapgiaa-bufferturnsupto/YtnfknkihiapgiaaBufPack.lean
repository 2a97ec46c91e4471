/- New and Pack. -/
import Derived.Test.YtnfknkihiapgiaaBufTell
namespace Go.Proofs.Ytnfknkihiapgiaa.bf
open Go.ChangeShapes Go.WideShapes Go.ChangeAt Go.RowKit
open vl
set_option linter.unusedVariables false
set_option linter.unusedSimpArgs false
attribute [local go_sem] Oper.semAt_some
theorem new_bad (k : Int) (w : World) (h : betw k 1 64 = false) : Calls Try.prog 7 #[.int .i64 k] w fun e w' => e = .returned (.tuple #[emptyV, .int .i64 3]) ∧ Below w.heap.size w w' := by
  have KL : Hid (∀ w1, Calls Try.prog 29 #[.int .i64 k] w1 fun e w' => e = .returned (.bool false) ∧ w' = w1) := fun w1 => by have := limitRight_any k w1; rwa [h] at this
  unfold emptyV
  clear h
  go_enter Try.func7, Try.ntmps7
  go_wp2_with (go_at_call 29; refine (KL.out _).mono ?_; rintro e w2 ⟨rfl, rfl⟩)
  exact bodyPost_ret (v := .tuple #[.agg #[.int .i64 0, .slice none 0 0, .slice none 0 0], .int .i64 3]) (by simp [results, Try.results7, go_sem]) rfl ⟨rfl, (Below.refl _ _).alloc (Nat.le_refl _) _⟩
theorem new_ok (k : Int) (w : World) (h : betw k 1 64 = true) : Calls Try.prog 7 #[.int .i64 k] w fun e w' => e = .returned (.tuple #[.agg #[.int .i64 k, .slice none 0 0, .slice none 0 0], .int .i64 0]) ∧ Below w.heap.size w w' := by
  have KL : Hid (∀ w1, Calls Try.prog 29 #[.int .i64 k] w1 fun e w' => e = .returned (.bool true) ∧ w' = w1) := fun w1 => by have := limitRight_any k w1; rwa [h] at this
  clear h
  go_enter Try.func7, Try.ntmps7
  go_wp2_with (go_at_call 29; refine (KL.out _).mono ?_; rintro e w2 ⟨rfl, rfl⟩)
  exact bodyPost_ret (v := .tuple #[.agg #[.int .i64 k, .slice none 0 0, .slice none 0 0], .int .i64 0]) (by simp [results, Try.results7, go_sem]) rfl ⟨rfl, (Below.refl _ _).alloc (Nat.le_refl _) _⟩
set_option maxHeartbeats 2000000 in
theorem pack_bad (b : Buf) (x : BX) (w : World) (h : bufAt w b x) (hw : ∀ y ∈ entsB b, wfE y ∧ wfP (plOf y)) (hs : (entsB b).length ≤ 4611686018427387904) (he : errB b ≠ 0) :
    Calls Try.prog 23 #[bufV b x] w fun e w' => e = .returned (.tuple #[emptyV, .int .i64 (errB b)]) ∧ Below w.heap.size w w' := by
  have KA : Hid (∀ w1, Below w.heap.size w w1 → Calls Try.prog 21 #[bufV b x] w1 fun e w' => e = .returned (.tuple #[.slice none 0 0, .int .i64 (errB b)]) ∧ Below w1.heap.size w1 w') := fun w1 hb => all_bad b x w1 (bufAt_below h hb) hw hs he
  obtain ⟨E, hE⟩ : ∃ z, errB b = z := ⟨_, rfl⟩
  rw [hE] at KA he ⊢
  clear hE h hw hs
  obtain ⟨ra, rc, ⟨⟨m1, m2, m3⟩, ml⟩, rs⟩ := x
  obtain ⟨lim, mem, runs⟩ := b
  unfold bufV hdV at KA ⊢
  unfold emptyV
  dsimp only at KA ⊢
  obtain ⟨n, hn⟩ : ∃ n, rs.length = n := ⟨_, rfl⟩
  rw [hn] at KA ⊢
  clear hn
  have hbe : (E != 0) = true := by simpa using he
  have hb0 : Below w.heap.size w ((w.alloc (.cells #[.int .i64 lim, .slice m1 m2 m3, .slice ra n rc] 25)).alloc (.cells #[.int .i64 0, .slice none 0 0, .slice none 0 0] 25)) := by
    repeat (first | exact Below.refl _ _ | (refine Below.alloc ?_ (by simp <;> omega) _))
  have NBV := nb_alloc (w.alloc (.cells #[.int .i64 lim, .slice m1 m2 m3, .slice ra n rc] 25))
  rw [World.size_alloc] at NBV
  have HNB : Hid (nbAt ((w.alloc (.cells #[.int .i64 lim, .slice m1 m2 m3, .slice ra n rc] 25)).alloc (.cells #[.int .i64 0, .slice none 0 0, .slice none 0 0] 25)) (w.heap.size + 1)) := NBV
  clear NBV
  go_enter Try.func23, Try.ntmps23
  go_wp2_with (go_at_call 21; refine (KA.out _ hb0).mono ?_; rintro e w2 ⟨rfl, hb2⟩; obtain ⟨n0, n1, n2, o0, o1, o2, n3⟩ := nb_below hb2 HNB.out)
  have hbw : Below w.heap.size w w2 := hb0.trans (hb2.mono hb0.size)
  exact bodyPost_ret (v := .tuple #[.agg #[.int .i64 0, .slice none 0 0, .slice none 0 0], .int .i64 E]) (by simp [results, Try.results23, go_sem, n0, n1, n2]) rfl ⟨rfl, ((hbw.setCell (by dsimp only; omega) _).setCell (by dsimp only; omega) _).setCell (by dsimp only; omega) _⟩
/-- one run of all -/
def packB (lim : Int) (l : List Ent) : Buf := ⟨lim, [], if 0 < l.length then [l] else []⟩
theorem OB_one {w : World} {base g : Nat} {hh : Hdr} {es : List EM} {l : List Ent} {lim : Int} (h : OE w base (hdV hh) es l) (hl : 0 < l.length) (hg : base ≤ g) (hc : w.heap[g]? = some (.cells #[hdV hh] 22)) : OB w base ⟨some ⟨g, 0, none⟩, 1, ((none, 0, 0), []), [(hh, es)]⟩ (packB lim l) := by
  have e : packB lim l = ⟨lim, [], [l]⟩ := by unfold packB; rw [if_pos hl]
  rw [e]
  refine ⟨h.low, OE_nil h.low, ⟨rfl, .inr ⟨g, 1, _, rfl, hg, hc, Nat.le_refl _, by unfold maxLen; omega, rfl, rfl⟩⟩, rfl, fun i hi => ?_, ?_⟩
  · have : i = 0 := by simpa using hi
    subst this
    exact h
  · refine List.pairwise_cons.2 ⟨fun a _ g' hg' => ?_, List.pairwise_singleton _ _⟩
    cases hg'
theorem OB_zero {w : World} {base : Nat} {l : List Ent} {lim : Int} (hb : base ≤ w.heap.size) (hl : ¬ 0 < l.length) : OB w base ⟨none, 0, ((none, 0, 0), []), []⟩ (packB lim l) := by
  have e : packB lim l = ⟨lim, [], []⟩ := by unfold packB; rw [if_neg hl]
  rw [e]
  exact OB_first (hh := (none, 0, 0)) (OE_nil hb)
theorem OE_set3 {w : World} {base N : Nat} {v : Value} {es : List EM} {l : List Ent} (h : OE w base v es l) (hN : tyAt w N 25) (u0 u1 u2 : Value) : OE (((w.setCell ⟨N, 0, none⟩ u0).setCell ⟨N, 1, none⟩ u1).setCell ⟨N, 2, none⟩ u2) base v es l :=
  OE_set (OE_set (OE_set h hN _ _) (tyAt_set hN _ _) _ _) (tyAt_set (tyAt_set hN _ _) _ _) _ _
theorem heap_new2 {W : World} {k : Nat} (hk : W.heap.size = k) (A B : Obj) : ((W.alloc A).alloc B).heap[k + 1]? = some B := by
  have h := World.alloc_heap_new (W.alloc A) B
  rwa [World.size_alloc, hk] at h
theorem below_set3 {w w2 : World} {k C : Nat} (h : Below k w w2) (hC : k ≤ C) (u0 u1 u2 : Value) : Below k w (((w2.setCell ⟨C, 0, none⟩ u0).setCell ⟨C, 1, none⟩ u1).setCell ⟨C, 2, none⟩ u2) := ((h.setCell hC _).setCell hC _).setCell hC _
set_option maxHeartbeats 4000000 in
theorem pack_ok (b : Buf) (x : BX) (w : World) (h : bufAt w b x) (hw : ∀ y ∈ entsB b, wfE y ∧ wfP (plOf y)) (hs : (entsB b).length ≤ 4611686018427387904) (he : errB b = 0) :
    Calls Try.prog 23 #[bufV b x] w fun e w' => (∃ x' l', e = .returned (.tuple #[bufV (packB b.lim l') x', .int .i64 0]) ∧ l'.Perm (entsB b) ∧ byPl l' ∧ OB w' w.heap.size x' (packB b.lim l')) ∧ Below w.heap.size w w' := by
  have KA : Hid (∀ w1, Below w.heap.size w w1 → Calls Try.prog 21 #[bufV b x] w1 fun e w' => (∃ (hh : Hdr) (es' : List EM) (l' : List Ent), e = .returned (.tuple #[hdV hh, .int .i64 0]) ∧ l'.Perm (entsB b) ∧ byPl l' ∧ OE w' w1.heap.size (hdV hh) es' l') ∧ Below w1.heap.size w1 w') := fun w1 hb => all_ok b x w1 (bufAt_below h hb) hw hs he
  clear h hw hs he
  obtain ⟨L, hL⟩ : ∃ z, entsB b = z := ⟨_, rfl⟩
  rw [hL] at KA ⊢
  clear hL
  obtain ⟨ra, rc, ⟨⟨m1, m2, m3⟩, ml⟩, rs⟩ := x
  obtain ⟨lim, mem, runs⟩ := b
  rw [show bufV ⟨lim, mem, runs⟩ ⟨ra, rc, ((m1, m2, m3), ml), rs⟩ = .agg #[.int .i64 lim, .slice m1 m2 m3, .slice ra rs.length rc] from rfl] at KA ⊢
  dsimp only
  obtain ⟨n, hn⟩ : ∃ n, rs.length = n := ⟨_, rfl⟩
  rw [hn] at KA ⊢
  clear hn
  have hb0 : Below w.heap.size w ((w.alloc (.cells #[.int .i64 lim, .slice m1 m2 m3, .slice ra n rc] 25)).alloc (.cells #[.int .i64 0, .slice none 0 0, .slice none 0 0] 25)) := by
    repeat (first | exact Below.refl _ _ | (refine Below.alloc ?_ (by simp <;> omega) _))
  have NBV := nb_alloc (w.alloc (.cells #[.int .i64 lim, .slice m1 m2 m3, .slice ra n rc] 25))
  rw [World.size_alloc] at NBV
  have HNB : Hid (nbAt ((w.alloc (.cells #[.int .i64 lim, .slice m1 m2 m3, .slice ra n rc] 25)).alloc (.cells #[.int .i64 0, .slice none 0 0, .slice none 0 0] 25)) (w.heap.size + 1)) := NBV
  clear NBV
  go_enter Try.func23, Try.ntmps23
  go_wp2_with fail
  refine (KA.out _ hb0).mono ?_
  rintro e w2 ⟨⟨⟨h1, h2, h3⟩, es', l', rfl, hp, hy, hoe⟩, hb2⟩
  obtain ⟨n0, n1, n2, o0, o1, o2, n3⟩ := nb_below hb2 HNB.out
  have hbw : Below w.heap.size w w2 := hb0.trans (hb2.mono hb0.size)
  have k0 : w2.cell? ⟨w.heap.size, 0, none⟩ = some (.int .i64 lim) := cell_later hb2 (by go_simp)
  have lw : w.heap.size + 1 < w2.heap.size := World.block_lt_of_cell? _ _ n0
  have hl2 : h2 = l'.length := by
    obtain ⟨ad, cp, hf⟩ := hoe.form
    unfold hdV at hf
    injection hf with _ e2 _
    exact Eq.trans e2 hoe.len
  have HOE : Hid (OE w2 w.heap.size (hdV (h1, h2, h3)) es' l') := hoe.mono hb0.size
  have HL2 : Hid (h2 = l'.length) := hl2
  have lw0 : w.heap.size < w2.heap.size := by omega
  unfold hdV
  dsimp only
  clear hoe hl2
  by_cases h0 : 0 < h2
  · go_wp2
    have hO3 := OE_set3 HOE.out n3 (.int .i64 lim) (.slice none 0 0) (.slice (some ⟨w2.heap.size + 1, 0, none⟩) 1 1)
    have hB3 := below_set3 hbw (Nat.le_succ w.heap.size) (.int .i64 lim) (.slice none 0 0) (.slice (some ⟨w2.heap.size + 1, 0, none⟩) 1 1)
    refine bodyPost_ret (v := .tuple #[.agg #[.int .i64 lim, .slice none 0 0, .slice (some ⟨w2.heap.size + 1, 0, none⟩) 1 1], .int .i64 0]) (by simp [results, Try.results23, go_sem, n0, n1, n2, lw, lw0]) rfl ⟨⟨⟨some ⟨w2.heap.size + 1, 0, none⟩, 1, ((none, 0, 0), []), [((h1, h2, h3), es')]⟩, l', rfl, hp, hy, OB_one ((hO3.below ((Below.refl _ _).alloc (Nat.le_refl _) _)).below ((Below.refl _ _).alloc (Nat.le_refl _) _)) (by rw [← HL2.out]; exact h0) (by omega) (heap_new2 (by simp [World.setCell]) _ _)⟩, ?_⟩
    exact (hB3.alloc hB3.size _).alloc (hB3.alloc hB3.size _).size _
  · go_wp2
    have hB3 := below_set3 hbw (Nat.le_succ w.heap.size) (.int .i64 lim) (.slice none 0 0) (.slice none 0 0)
    refine bodyPost_ret (v := .tuple #[.agg #[.int .i64 lim, .slice none 0 0, .slice none 0 0], .int .i64 0]) (by simp [results, Try.results23, go_sem, n0, n1, n2, lw, lw0]) rfl ⟨⟨⟨none, 0, ((none, 0, 0), []), []⟩, l', rfl, hp, hy, OB_zero (hB3.alloc hB3.size _).size (by rw [← HL2.out]; exact h0)⟩, hB3.alloc hB3.size _⟩
end Go.Proofs.Ytnfknkihiapgiaa.bf
