/- Several texts in one: ChgTwo, ChgMade. -/
import Derived.Test.YtbfbgdinhiglaaaGreatMgChgB
/- Two lists of changes that are being made at once, in memory: what they are, and that one change more is one change more. -/
namespace Go.Proofs.YtbfbgdinhiglaaaGreat.ch
open Go.ChangeShapes Go.WideShapes Go.ChangeAt Go.RowKit Go.Maps Go.WideMaps
open vl
set_option linter.unusedVariables false
set_option linter.unusedSimpArgs false

theorem infoG : (Tryz.prog.info? 65).map (fun i => (i.zero, i.size, i.bytes)) = some (some (.agg #[.int .i64 0, .slice none 0 0]), 2, 32) := by kernel_rfl
/-- the cells of changes -/
def flatC (l : List (Int × Value)) : List Value := l.flatMap fun p => [.int .i64 p.1, p.2]
theorem flatC_len (l : List (Int × Value)) : (flatC l).length = l.length * 2 := by
  induction l with
  | nil => rfl
  | cons c r ih => show ([_, _] ++ flatC r).length = _; rw [List.length_append, ih, List.length_cons]; simp; omega
theorem flatC_snoc (l : List (Int × Value)) (n : Int) (x : Value) : flatC (l ++ [(n, x)]) = flatC l ++ [.int .i64 n, x] := by
  unfold flatC; rw [List.flatMap_append]; simp
theorem flatC_at (l : List (Int × Value)) (i : Nat) (hli : i < l.length) : (flatC l)[i * 2]? = some (.int .i64 (l.getD i (0, .bool false)).1) ∧ (flatC l)[i * 2 + 1]? = some (l.getD i (0, .bool false)).2 := by
  induction l generalizing i with
  | nil => exact absurd hli (Nat.not_lt_zero i)
  | cons p r ih =>
    have e : flatC (p :: r) = .int .i64 p.1 :: p.2 :: flatC r := rfl
    rw [e]
    cases i with
    | zero => exact ⟨rfl, rfl⟩
    | succ i =>
      have := ih i (by simpa using hli)
      rw [show (i + 1) * 2 = i * 2 + 1 + 1 by omega]
      simpa using this

theorem step_appC {ops : Array Oper} {o : Oper} {a : Act} {K : Act → World → Prop} {Q : Exit → Act → World → Prop} {E : Prop} (hgd : o.guard = none) (s x : Operand)
    (hop : o.op = .call { callee := .builtin .append, args := #[s, x], argTypes := #[36, 36] })
    (base : Nat) (v : Value) (l : List (Int × Value)) (n : Int) (ad : Option Addr) (rl cap : Nat) (w1 : World) (ln : Nat) (hln : l.length = ln) (ho : w1.ownsRow base 65 2 v ln (flatC l)) (hl : ln ≤ 1000000000) (hb : base ≤ w1.heap.size)
    (hs : a.eval s = v) (hx : a.eval x = .slice (some ⟨w1.heap.size, 0, none⟩) 1 1)
    (h : ∀ g cap2 w2, w2.ownsRow base 65 2 (.slice (some ⟨g, 0, none⟩) (ln + 1) cap2) (ln + 1) (flatC (l ++ [(n, .slice ad rl cap)])) → (w1.alloc (.cells #[.int .i64 n, .slice ad rl cap] 65)).grownBy w2 v.ownBlock → (v.ownBlock = some g ∨ g = w1.heap.size + 1) → g < w2.heap.size → K (a.put o.dst (.slice (some ⟨g, 0, none⟩) (ln + 1) cap2)) w2) :
    if Region.wanted o (yielded ops a.tmps) = true then Oper.wp Tryz.prog o a (w1.alloc (.cells #[.int .i64 n, .slice ad rl cap] 65)) K Q else E := by
  obtain ⟨i0, hi, hz0, hz1, hz2⟩ := info_parts infoG
  refine step_append_lies _ hgd s x 36 hop base 65 i0 (.agg #[.int .i64 0, .slice none 0 0]) 2 32 Tryz.underlying36 hi hz0 hz1 hz2 rfl (by decide) v ln (flatC l) hs
    (ho.alloc _) ⟨w1.heap.size, 0, none⟩ 1 1 [.int .i64 n, .slice ad rl cap] hx rfl (cell_two_new _ _ _ _) (by intro u hu; simp at hu; rcases hu with rfl | rfl <;> rfl) (by decide) (by unfold maxLen; omega) (by omega) (by simp; omega) (w1.heap.size + 1) (by simp) ?_
  intro g cap2 w2 h2 h3 h4 h5
  exact h g cap2 w2 (by rw [flatC_snoc]; exact h2) h3 h4 h5

/-- which blocks are written -/
def wrt (C D : Nat) (v u : Value) (g : Nat) : Prop := g = C ∨ g = D ∨ v.ownBlock = some g ∨ u.ownBlock = some g
theorem wrt_symm {C D : Nat} {v u : Value} {g : Nat} (h : wrt C D v u g) : wrt D C u v g := by
  rcases h with h | h | h | h
  · exact .inr (.inl h)
  · exact .inl h
  · exact .inr (.inr (.inr h))
  · exact .inr (.inr (.inl h))
/-- the rows of changes, apart from what is written -/
def rowsC (w : World) (base : Nat) (no : Nat → Prop) (p : List (Int × Value)) (l : List Chg) : Prop := ∀ i, i < l.length →
  (p.getD i (0, .bool false)).1 = (l.getD i default).k ∧ ∃ ad cap, (p.getD i (0, .bool false)).2 = .slice ad (l.getD i default).r.length cap ∧ ownV w base (.slice ad (l.getD i default).r.length cap) (l.getD i default).r ∧
    ∀ g, (Value.slice ad (l.getD i default).r.length cap).ownBlock = some g → ¬ no g
def CR (w : World) (base : Nat) (v : Value) (no : Nat → Prop) (l : List Chg) : Prop :=
  ∃ p : List (Int × Value), p.length = l.length ∧ w.ownsRow base 65 2 v p.length (flatC p) ∧ rowsC w base no p l
structure TS (w : World) (C D base : Nat) (v u : Value) (l m : List Chg) : Prop where
  c1 : w.cell? ⟨C, 0, none⟩ = some v
  c2 : w.cell? ⟨D, 0, none⟩ = some u
  f1 : w.frozen? ⟨C, 0, none⟩ = false
  f2 : w.frozen? ⟨D, 0, none⟩ = false
  cd : C ≠ D
  vC : v.ownBlock ≠ some C
  vD : v.ownBlock ≠ some D
  uC : u.ownBlock ≠ some C
  uD : u.ownBlock ≠ some D
  vu : ∀ g, v.ownBlock = some g → u.ownBlock ≠ some g
  low : base ≤ w.heap.size
  r1 : CR w base v (wrt C D v u) l
  r2 : CR w base u (wrt C D v u) m
theorem rowsC_imp {w : World} {base : Nat} {no no' : Nat → Prop} {p : List (Int × Value)} {l : List Chg} (h : rowsC w base no p l) (k : ∀ g, no' g → no g) : rowsC w base no' p l := by
  intro i hi
  obtain ⟨e1, ad, cap, e2, e3, e4⟩ := h i hi
  exact ⟨e1, ad, cap, e2, e3, fun g hg hn => e4 g hg (k g hn)⟩
theorem CR_imp {w : World} {base : Nat} {v : Value} {no no' : Nat → Prop} {l : List Chg} (h : CR w base v no l) (k : ∀ g, no' g → no g) : CR w base v no' l := by
  obtain ⟨p, h1, h2, h3⟩ := h
  exact ⟨p, h1, h2, rowsC_imp h3 k⟩
theorem TS.symm {w : World} {C D base : Nat} {v u : Value} {l m : List Chg} (h : TS w C D base v u l m) : TS w D C base u v m l :=
  ⟨h.c2, h.c1, h.f2, h.f1, fun e => h.cd e.symm, h.uD, h.uC, h.vD, h.vC, fun g h1 h2 => h.vu g h2 h1, h.low, CR_imp h.r2 (fun _ k => wrt_symm k), CR_imp h.r1 (fun _ k => wrt_symm k)⟩
/-- rows stay where only what is written was written -/
theorem rowsC_fr {w w' : World} {base : Nat} {no no' : Nat → Prop} {p : List (Int × Value)} {l : List Chg} (h : rowsC w base no p l) (hb : ∀ b, b < w.heap.size → ¬ no b → w'.heap[b]? = w.heap[b]?) (hn : ∀ b, b < w.heap.size → no' b → no b) : rowsC w' base no' p l := by
  intro i hi
  obtain ⟨e1, ad, cap, e2, e3, e4⟩ := h i hi
  refine ⟨e1, ad, cap, e2, own_same e3 (fun b hg => hb b (own_lt e3 hg).2 (e4 b hg)), fun g hg hn' => e4 g hg (hn g (own_lt e3 hg).2 hn')⟩
theorem TS_below {w w' : World} {C D base : Nat} {v u : Value} {l m : List Chg} (h : TS w C D base v u l m) (hb : Below w.heap.size w w') : TS w' C D base v u l m := by
  have hClt : C < w.heap.size := World.block_lt_of_cell? _ _ h.c1
  have hDlt : D < w.heap.size := World.block_lt_of_cell? _ _ h.c2
  refine ⟨cell_later hb h.c1, cell_later hb h.c2, (hb.frozen (p := ⟨C, 0, none⟩) hClt).trans h.f1, (hb.frozen (p := ⟨D, 0, none⟩) hDlt).trans h.f2, h.cd, h.vC, h.vD, h.uC, h.uD, h.vu, Nat.le_trans h.low hb.size, ?_, ?_⟩
  · obtain ⟨p, h1, h2, h3⟩ := h.r1
    exact ⟨p, h1, own_below h2 hb, rowsC_fr h3 (fun b hlt _ => hb.block b hlt) (fun _ _ k => k)⟩
  · obtain ⟨p, h1, h2, h3⟩ := h.r2
    exact ⟨p, h1, own_below h2 hb, rowsC_fr h3 (fun b hlt _ => hb.block b hlt) (fun _ _ k => k)⟩

/-- one change more -/
theorem TS_step {w w1 w2 : World} {C D base : Nat} {v u : Value} {l m : List Chg} {p : List (Int × Value)} {r : List Cel} {n : Int} {ad : Option Addr} {cap g cap2 : Nat} (h : TS w C D base v u l m)
    (hpl : p.length = l.length) (hpo : w.ownsRow base 65 2 v p.length (flatC p)) (hpr : rowsC w base (wrt C D v u) p l)
    (hb1 : Below w.drew.heap.size w.drew w1) (hov : ownV w1 w.heap.size (.slice ad r.length cap) r) (hown2 : w2.ownsRow base 65 2 (.slice (some ⟨g, 0, none⟩) (p.length + 1) cap2) (p.length + 1) (flatC (p ++ [(n, .slice ad r.length cap)])))
    (hg2 : (w1.alloc (.cells #[.int .i64 n, .slice ad r.length cap] 65)).grownBy w2 v.ownBlock) (hat : v.ownBlock = some g ∨ g = w1.heap.size + 1) :
    TS (w2.setCell ⟨C, 0, none⟩ (.slice (some ⟨g, 0, none⟩) (p.length + 1) cap2)) C D base (.slice (some ⟨g, 0, none⟩) (p.length + 1) cap2) u (l ++ [⟨n, r⟩]) m ∧ fr C v.ownBlock w (w2.setCell ⟨C, 0, none⟩ (.slice (some ⟨g, 0, none⟩) (p.length + 1) cap2)) := by
  have hClt : C < w.heap.size := World.block_lt_of_cell? _ _ h.c1
  have hDlt : D < w.heap.size := World.block_lt_of_cell? _ _ h.c2
  have hs1 : w.heap.size ≤ w1.heap.size := hb1.size
  have hs2 : w1.heap.size + 1 ≤ w2.heap.size := by have := hg2.size; simpa using this
  have hc1 : w1.cell? ⟨C, 0, none⟩ = some v := cell_later hb1 h.c1
  have hf1 : w1.frozen? ⟨C, 0, none⟩ = false := (hb1.frozen (p := ⟨C, 0, none⟩) hClt).trans h.f1
  have hd1 : w1.cell? ⟨D, 0, none⟩ = some u := cell_later hb1 h.c2
  have he1 : w1.frozen? ⟨D, 0, none⟩ = false := (hb1.frozen (p := ⟨D, 0, none⟩) hDlt).trans h.f2
  have hc2 := far_cell hg2 hc1 h.vC
  have hf2 := far_frozen hg2 hc1 h.vC hf1
  have hd2 := far_cell hg2 hd1 h.vD
  have he2 := far_frozen hg2 hd1 h.vD he1
  have hvlt : ∀ b, v.ownBlock = some b → base ≤ b ∧ b < w.heap.size := fun b hb => own_lt hpo hb
  obtain ⟨q, hql, hqo, hqr⟩ := h.r2
  have hult : ∀ b, u.ownBlock = some b → base ≤ b ∧ b < w.heap.size := fun b hb => own_lt hqo hb
  have hgC : g ≠ C := by
    rcases hat with h1 | h1
    · intro e; subst e; exact h.vC h1
    · omega
  have hgD : g ≠ D := by
    rcases hat with h1 | h1
    · intro e; subst e; exact h.vD h1
    · omega
  have hgu : u.ownBlock ≠ some g := by
    rcases hat with h1 | h1
    · exact h.vu g h1
    · intro e; have := (hult g e).2; omega
  have hblk : ∀ b, b < w1.heap.size → b ≠ C → v.ownBlock ≠ some b → (w2.setCell ⟨C, 0, none⟩ (.slice (some ⟨g, 0, none⟩) (p.length + 1) cap2)).heap[b]? = w1.heap[b]? := fun b hb hne ho => by
    rw [Below.heap_setCell _ _ _ b hne, hg2.block b (by simp; omega) (fun e => ho e.symm)]
    exact Below.heap_alloc _ _ b hb
  have hfr : fr C v.ownBlock w (w2.setCell ⟨C, 0, none⟩ (.slice (some ⟨g, 0, none⟩) (p.length + 1) cap2)) := by
    have hb0 := (((hb1.mono (Nat.zero_le _)).alloc (Nat.zero_le _) (.cells #[.int .i64 n, .slice ad r.length cap] 65)).grown hg2 (Nat.zero_le _) (fun _ _ => Nat.zero_le _)).setCell (p := ⟨C, 0, none⟩) (Nat.zero_le _) (.slice (some ⟨g, 0, none⟩) (p.length + 1) cap2)
    exact ⟨hb0.os, hb0.tape, hb0.output, hb0.size, fun b hb hne ho => (hblk b (by omega) hne ho).trans (hb1.block b hb)⟩
  have hno : ∀ b, b < w.heap.size → ¬ wrt C D v u b → (w2.setCell ⟨C, 0, none⟩ (.slice (some ⟨g, 0, none⟩) (p.length + 1) cap2)).heap[b]? = w.heap[b]? := fun b hb hn => hfr.block b hb (fun e => hn (.inl e)) (fun e => hn (.inr (.inr (.inl e))))
  have hnw : ∀ b, b < w.heap.size → wrt C D (.slice (some ⟨g, 0, none⟩) (p.length + 1) cap2) u b → wrt C D v u b := by
    intro b hb hn
    rcases hn with e | e | e | e
    · exact .inl e
    · exact .inr (.inl e)
    · have hbg : g = b := by cases e; rfl
      subst hbg
      rcases hat with h1 | h1
      · exact .inr (.inr (.inl h1))
      · omega
    · exact .inr (.inr (.inr e))
  have hDC : (⟨D, 0, none⟩ : Addr) ≠ ⟨C, 0, none⟩ := fun e => h.cd (by cases e; rfl)
  have hd3 : (w2.setCell ⟨C, 0, none⟩ (.slice (some ⟨g, 0, none⟩) (p.length + 1) cap2)).cell? ⟨D, 0, none⟩ = some u := by
    rw [World.cell?_of_block (w := w2) (Below.heap_setCell _ _ _ D (fun e => h.cd e.symm))]; exact hd2
  refine ⟨⟨World.cell?_setCell_same _ _ _ hc2, hd3, by rw [World.frozen?_setCell]; exact hf2, by rw [World.frozen?_setCell]; exact he2, h.cd, fun e => hgC (by cases e; rfl), fun e => hgD (by cases e; rfl), h.uC, h.uD,
    fun x e => by have hx : g = x := by cases e; rfl
                  rw [← hx]; exact hgu, Nat.le_trans h.low hfr.size, ?_, ?_⟩, hfr⟩
  · refine ⟨p ++ [(n, .slice ad r.length cap)], by rw [List.length_append, List.length_append, hpl]; rfl, ?_, ?_⟩
    · rw [List.length_append]
      refine own_same hown2 (fun b hb => ?_)
      have : b = g := by cases hb; rfl
      subst this
      exact Below.heap_setCell _ _ _ b hgC
    · intro i hi
      rw [List.length_append] at hi
      by_cases hlt : i < l.length
      · have := rowsC_fr hpr hno hnw i hlt
        rw [getD_snoc_lt l _ _ i hlt, getD_snoc_lt p _ _ i (by omega)]
        exact this
      · have hie : i = l.length := by simp at hi; omega
        rw [getD_snoc_at l _ _ i hie, getD_snoc_at p _ _ i (by omega)]
        refine ⟨rfl, ad, cap, rfl, ?_, ?_⟩
        · refine own_same (World.ownsRow.mono hov h.low) (fun b hb => ?_)
          have hbb := own_lt hov hb
          exact hblk b hbb.2 (by omega) (fun e => by have := (hvlt b e).2; omega)
        · intro b hb hn
          have hbb := own_lt hov hb
          rcases hn with e | e | e | e
          · omega
          · omega
          · have hbg : g = b := by cases e; rfl
            subst hbg
            rcases hat with h1 | h1
            · have := (hvlt g h1).2; omega
            · omega
          · have := (hult b e).2; omega
  · exact ⟨q, hql, own_same hqo (fun b hb => hfr.block b (hult b hb).2 (fun e => h.uC (by rw [← e]; exact hb)) (fun e => h.vu b e hb)), rowsC_fr hqr hno hnw⟩

/-- all below N stays but C and D -/
structure fr2 (C D N : Nat) (w w' : World) : Prop where
  os : w'.os = w.os
  tape : w'.tape = w.tape
  output : w'.output = w.output
  size : w.heap.size ≤ w'.heap.size
  block : ∀ b, b < N → b ≠ C → b ≠ D → w'.heap[b]? = w.heap[b]?
theorem fr2_refl (C D N : Nat) (w : World) : fr2 C D N w w := ⟨rfl, rfl, rfl, Nat.le_refl _, fun _ _ _ _ => rfl⟩
theorem fr2_trans {C D N : Nat} {w w1 w2 : World} (h : fr2 C D N w w1) (k : fr2 C D N w1 w2) : fr2 C D N w w2 :=
  ⟨k.os.trans h.os, k.tape.trans h.tape, k.output.trans h.output, Nat.le_trans h.size k.size, fun b hb h1 h2 => (k.block b hb h1 h2).trans (h.block b hb h1 h2)⟩
theorem fr2_of {C D N : Nat} {o : Option Nat} {w w' : World} (h : fr C o w w') (ho : ∀ g, o = some g → N ≤ g) (hN : N ≤ w.heap.size) : fr2 C D N w w' :=
  ⟨h.os, h.tape, h.output, h.size, fun b hb h1 _ => h.block b (by omega) h1 (fun e => by have := ho b e; omega)⟩
theorem fr2_symm {C D N : Nat} {w w' : World} (h : fr2 C D N w w') : fr2 D C N w w' := ⟨h.os, h.tape, h.output, h.size, fun b hb h1 h2 => h.block b hb h2 h1⟩
theorem fr2_cell {C D N : Nat} {w w' : World} (h : fr2 C D N w w') {p : Addr} (hp : p.block < N) (hC : p.block ≠ C) (hD : p.block ≠ D) : w'.cell? p = w.cell? p := World.cell?_of_block (w := w) (h.block p.block hp hC hD)
theorem cmap_fr2 {w w' : World} {B nn C D N : Nat} {kv : KV} (h : cmap w B nn kv) (k : fr2 C D N w w') (hN : B < N) (hC : B ≠ C) (hD : B ≠ D) : cmap w' B nn kv := by
  obtain ⟨es, clock, h1, h2, h3, h4⟩ := h
  exact ⟨es, clock, by rw [k.block B hN hC hD]; exact h1, h2, h3, h4⟩
/-- new blocks alone -/
def newer (N : Nat) (v : Value) : Prop := ∀ g, v.ownBlock = some g → N ≤ g
end Go.Proofs.YtbfbgdinhiglaaaGreat.ch

/- What changes' closure does to the two lists that it makes: so many Deletes more, so many Inserts more. -/
namespace Go.Proofs.YtbfbgdinhiglaaaGreat.ch
open Go.ChangeShapes Go.WideShapes Go.ChangeAt Go.RowKit Go.Maps Go.WideMaps
open vl
set_option linter.unusedVariables false
set_option linter.unusedSimpArgs false

theorem rep_snoc (l : List Chg) (k : Nat) (x : Chg) : l ++ List.replicate (k + 1) x = (l ++ List.replicate k x) ++ [x] := by
  rw [List.replicate_succ', List.append_assoc]
theorem new_of {N g x : Nat} {v : Value} (h : newer N v) (hN : N ≤ x) (hat : v.ownBlock = some g ∨ g = x + 1) {n c : Nat} : newer N (.slice (some ⟨g, 0, none⟩) n c) := by
  intro b hb
  have hbg : b = g := by cases hb; rfl
  subst hbg
  rcases hat with h1 | h1
  · exact h b h1
  · omega

end Go.Proofs.YtbfbgdinhiglaaaGreat.ch
