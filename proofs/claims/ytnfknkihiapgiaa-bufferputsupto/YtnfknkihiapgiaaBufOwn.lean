/- Entries of one's own. -/
import Derived.Test.YtnfknkihiapgiaaBufRight
import Derived.Deep.AppendLies
import Derived.Deep.RegionLaw
namespace Go.Proofs.Ytnfknkihiapgiaa.bf
open Go.ChangeShapes Go.WideShapes Go.ChangeAt Go.RowKit
open vl
set_option linter.unusedVariables false
set_option linter.unusedSimpArgs false
theorem infoE : (Try.prog.info? 28).map (fun i => (i.zero, i.size, i.bytes)) = some (some (.agg #[.string ⟨#[]⟩, .int .i64 0, .int .i64 0, .slice none 0 0, .bool false]), 5, 64) := by kernel_rfl
theorem own_same {w w' : World} {base : Nat} {e : TypeId} {size : Nat} {v : Value} {n : Nat} {xs : List Value} (h : w.ownsRow base e size v n xs) (hb : ∀ g, v.ownBlock = some g → w'.heap[g]? = w.heap[g]?) : w'.ownsRow base e size v n xs := by
  refine ⟨h.1, ?_⟩
  rcases h.2 with h0 | ⟨g, cap, cur, hv, h1, hg, h2⟩
  · exact .inl h0
  · exact .inr ⟨g, cap, cur, hv, h1, by rw [hb g (by rw [hv]; rfl)]; exact hg, h2⟩
theorem own_lt {w : World} {base : Nat} {e : TypeId} {size : Nat} {v : Value} {n : Nat} {xs : List Value} (h : w.ownsRow base e size v n xs) {g : Nat} (hg : v.ownBlock = some g) : base ≤ g ∧ g < w.heap.size := World.ownsRow.lt h g hg
theorem own_below {w w' : World} {base : Nat} {e : TypeId} {size : Nat} {v : Value} {n : Nat} {xs : List Value} (h : w.ownsRow base e size v n xs) (hb : Below w.heap.size w w') : w'.ownsRow base e size v n xs :=
  own_same h (fun g hg => hb.block g (own_lt h hg).2)
theorem own_mono {w : World} {base base' : Nat} {e : TypeId} {size : Nat} {v : Value} {n : Nat} {xs : List Value} (h : w.ownsRow base e size v n xs) (hb : base' ≤ base) : w.ownsRow base' e size v n xs := by
  refine ⟨h.1, ?_⟩
  rcases h.2 with h0 | ⟨g, cap, cur, hv, h1, hg, h2⟩
  · exact .inl h0
  · exact .inr ⟨g, cap, cur, hv, Nat.le_trans hb h1, hg, h2⟩
/-- of different types, different blocks -/
theorem own_apart {w : World} {base base' : Nat} {e e' : TypeId} {s s' : Nat} {v v' : Value} {n n' : Nat} {xs xs' : List Value} (h : w.ownsRow base e s v n xs) (h' : w.ownsRow base' e' s' v' n' xs') (he : e ≠ e') {g : Nat} (hg : v.ownBlock = some g) : v'.ownBlock ≠ some g := fun hg' => by
  rcases h.2 with ⟨rfl, _⟩ | ⟨b, cap, cur, rfl, _, hb, _⟩
  · cases hg
  · rcases h'.2 with ⟨rfl, _⟩ | ⟨b', cap', cur', rfl, _, hb', _⟩
    · cases hg'
    · cases hg
      cases hg'
      rw [hb] at hb'
      injection hb' with e1
      injection e1 with _ e2 _
      exact he e2
theorem add_at (b off j : Nat) : (⟨b, off, none⟩ : Addr).add j = ⟨b, off + j, none⟩ := by unfold Addr.add; split <;> simp_all
theorem rowAt_cells {w : World} {b off : Nat} {r : List Cel} (h : vl.rowAt w (some ⟨b, off, none⟩) r) : ∀ j u, (celCells r)[j]? = some u → w.cell? ((⟨b, off, none⟩ : Addr).add j) = some u := by
  intro j u hu
  have hlen : j < (celCells r).length := by
    rcases Nat.lt_or_ge j (celCells r).length with h | h
    · exact h
    · rw [List.getElem?_eq_none h] at hu; cases hu
  rw [celCells_len] at hlen
  have hi : j / 3 < r.length := by omega
  obtain ⟨b', o', e, x1, x2, x3⟩ := h (j / 3) hi
  cases e
  obtain ⟨y1, y2, y3⟩ := celCells_at r (j / 3) hi
  rw [add_at]
  have hj : j = j / 3 * 3 ∨ j = j / 3 * 3 + 1 ∨ j = j / 3 * 3 + 1 + 1 := by omega
  rcases hj with e | e | e
  · rw [e] at hu ⊢; rw [y1] at hu; rw [← hu]; exact x1
  · rw [e] at hu ⊢; rw [y2] at hu; rw [← hu]; exact x2
  · rw [e] at hu ⊢; rw [y3] at hu; rw [← hu]; exact x3
theorem celCells_one (r : List Cel) : ∀ u ∈ celCells r, u.oneCell' = true := by
  intro u hu
  unfold celCells at hu
  obtain ⟨c, _, hc⟩ := List.mem_flatMap.1 hu
  simp at hc
  rcases hc with rfl | rfl | rfl <;> rfl
/-- an entry of its own row -/
def EM.to (e : EM) (h : Hdr) : EM := ⟨e.key, e.time, e.seq, h, e.met⟩
/-! ### entries of one's own -/
def entCells (l : List EM) : List Value := l.flatMap fun e => [.string e.key, .int .i64 e.time, .int .i64 e.seq, hdV e.row, .bool e.met]
theorem entCells_len (l : List EM) : (entCells l).length = l.length * 5 := by
  induction l with
  | nil => rfl
  | cons c r ih => show ([_, _, _, _, _] ++ entCells r).length = _; rw [List.length_append, ih, List.length_cons]; simp; omega
theorem entCells_snoc (l : List EM) (e : EM) : entCells (l ++ [e]) = entCells l ++ [.string e.key, .int .i64 e.time, .int .i64 e.seq, hdV e.row, .bool e.met] := by
  unfold entCells; rw [List.flatMap_append]; simp
theorem entCells_at (r : List EM) (i : Nat) (h : i < r.length) : (entCells r)[i * 5]? = some (.string (r.getD i default).key) ∧ (entCells r)[i * 5 + 1]? = some (.int .i64 (r.getD i default).time) ∧ (entCells r)[i * 5 + 2]? = some (.int .i64 (r.getD i default).seq) ∧ (entCells r)[i * 5 + 3]? = some (hdV (r.getD i default).row) ∧ (entCells r)[i * 5 + 4]? = some (.bool (r.getD i default).met) := by
  induction r generalizing i with
  | nil => exact absurd h (Nat.not_lt_zero i)
  | cons c r ih =>
    have e : entCells (c :: r) = .string c.key :: .int .i64 c.time :: .int .i64 c.seq :: hdV c.row :: .bool c.met :: entCells r := rfl
    rw [e]
    cases i with
    | zero => exact ⟨rfl, rfl, rfl, rfl, rfl⟩
    | succ i =>
      have := ih i (by simpa using h)
      rw [show (i + 1) * 5 = i * 5 + 1 + 1 + 1 + 1 + 1 by omega]
      simpa using this
/-- an entry whose row is one's own -/
structure OR (w : World) (base : Nat) (e : EM) (x : Ent) : Prop where
  key : e.key = x.key
  time : e.time = x.time
  seq : e.seq = x.seq
  met : e.met = x.met
  len : e.row.2.1 = x.row.length
  row : ownV w base (hdV e.row) x.row
theorem OR.er {w : World} {base : Nat} {e : EM} {x : Ent} (h : OR w base e x) : ER w e x := ⟨h.key, h.time, h.seq, h.met, h.len, by
  have hr := h.row
  have hl := h.len
  obtain ⟨k1, t1, s1, ⟨a1, n1, c1⟩, m1⟩ := e
  unfold hdV at hr
  dsimp only at hr hl ⊢
  rw [hl] at hr
  exact ownV_row hr⟩
/-- entries of one's own -/
structure OE (w : World) (base : Nat) (v : Value) (es : List EM) (l : List Ent) : Prop where
  low : base ≤ w.heap.size
  own : w.ownsRow base 28 5 v es.length (entCells es)
  len : es.length = l.length
  rows : ∀ i, i < l.length → OR w base (es.getD i default) (l.getD i default)
theorem OE_nil {w : World} {base : Nat} (h : base ≤ w.heap.size) : OE w base (.slice none 0 0) [] [] := ⟨h, World.ownsRow_nil _ _ _ _, rfl, fun i hi => absurd hi (Nat.not_lt_zero i)⟩
theorem OE.form {w : World} {base : Nat} {v : Value} {es : List EM} {l : List Ent} (h : OE w base v es l) : ∃ ad cap, v = .slice ad es.length cap := by
  rcases h.own.2 with ⟨rfl, h0⟩ | ⟨g, cap, cur, rfl, _⟩
  · exact ⟨none, 0, by rw [h0]⟩
  · exact ⟨_, _, rfl⟩
theorem OE.ers {w : World} {base : Nat} {v : Value} {es : List EM} {l : List Ent} (h : OE w base v es l) : ERs w es l := ⟨h.len, fun i hi => (h.rows i hi).er⟩
theorem OE.at {w : World} {base cap : Nat} {ad : Option Addr} {es : List EM} {l : List Ent} (h : OE w base (.slice ad es.length cap) es l) : emsAt w ad es := by
  intro i hi
  rcases h.own.2 with ⟨hv, h0⟩ | ⟨g, cap', cur, hv, h1, hg, h2⟩
  · omega
  · cases hv
    have hc := World.ownsRow.cells h.own (g := g) rfl
    obtain ⟨x1, x2, x3, x4, x5⟩ := entCells_at es i hi
    refine ⟨g, 0, rfl, ?_, ?_, ?_, ?_, ?_⟩
    · have := hc _ _ x1; rw [add_at] at this; exact this
    · have := hc _ _ x2; rw [add_at] at this; exact this
    · have := hc _ _ x3; rw [add_at] at this; exact this
    · have := hc _ _ x4; rw [add_at] at this; exact this
    · have := hc _ _ x5; rw [add_at] at this; exact this
theorem OE.below {w w' : World} {base : Nat} {v : Value} {es : List EM} {l : List Ent} (h : OE w base v es l) (hb : Below w.heap.size w w') : OE w' base v es l :=
  ⟨Nat.le_trans h.low hb.size, own_below h.own hb, h.len, fun i hi => by
    obtain ⟨a1, a2, a3, a4, a5, a6⟩ := h.rows i hi
    exact ⟨a1, a2, a3, a4, a5, own_below a6 hb⟩⟩
theorem OE.mono {w : World} {base base' : Nat} {v : Value} {es : List EM} {l : List Ent} (h : OE w base v es l) (hb : base' ≤ base) : OE w base' v es l :=
  ⟨Nat.le_trans hb h.low, own_mono h.own hb, h.len, fun i hi => by
    obtain ⟨a1, a2, a3, a4, a5, a6⟩ := h.rows i hi
    exact ⟨a1, a2, a3, a4, a5, own_mono a6 hb⟩⟩
/-- blocks of another type may change -/
theorem OE.same {w w' : World} {base : Nat} {v : Value} {es : List EM} {l : List Ent} (h : OE w base v es l) (hs : w.heap.size ≤ w'.heap.size) (hb : ∀ g cur t, w.heap[g]? = some (.cells cur t (0, 0)) → (v.ownBlock = some g ∧ t = 28) ∨ t = 96 → w'.heap[g]? = w.heap[g]?) : OE w' base v es l :=
  ⟨Nat.le_trans h.low hs, own_same h.own (fun g hg => by
    rcases h.own.2 with ⟨rfl, _⟩ | ⟨b, cap, cur, rfl, _, hb', _⟩
    · cases hg
    · cases hg
      exact hb _ _ _ hb' (.inl ⟨rfl, rfl⟩)), h.len, fun i hi => by
    obtain ⟨a1, a2, a3, a4, a5, a6⟩ := h.rows i hi
    refine ⟨a1, a2, a3, a4, a5, own_same a6 (fun g hg => ?_)⟩
    rcases a6.2 with ⟨e, _⟩ | ⟨b, cap, cur, e, _, hb', _⟩
    · rw [e] at hg; cases hg
    · rw [e] at hg; cases hg
      exact hb _ _ _ hb' (.inr rfl)⟩
/-- one entry more -/
theorem OE_snoc {w w1 w2 : World} {base : Nat} {v : Value} {es : List EM} {l : List Ent} {e : EM} {x : Ent} {g cap2 : Nat} {o : Obj} (h : OE w base v es l) (hb1 : Below w.heap.size w w1) (hx : OR w1 base e x)
    (hown2 : w2.ownsRow base 28 5 (.slice (some ⟨g, 0, none⟩) (es.length + 1) cap2) (es.length + 1) (entCells es ++ [.string e.key, .int .i64 e.time, .int .i64 e.seq, hdV e.row, .bool e.met])) (hg2 : (w1.alloc o).grownBy w2 v.ownBlock) :
    OE w2 base (.slice (some ⟨g, 0, none⟩) (es.length + 1) cap2) (es ++ [e]) (l ++ [x]) ∧ Below base w w2 := by
  have h1 := h.below hb1
  have hs2 : w1.heap.size ≤ w2.heap.size := by have := hg2.size; simp at this; omega
  have hbl : ∀ b, b < w1.heap.size → v.ownBlock ≠ some b → w2.heap[b]? = w1.heap[b]? := fun b hb ho => by
    rw [hg2.block b (by simp; omega) (fun e => ho e.symm)]
    exact Below.heap_alloc _ _ b hb
  have hkeep : ∀ {e' : EM} {x' : Ent}, OR w1 base e' x' → OR w2 base e' x' := fun {e' x'} k => by
    obtain ⟨a1, a2, a3, a4, a5, a6⟩ := k
    refine ⟨a1, a2, a3, a4, a5, own_same a6 (fun b hb => hbl b (own_lt a6 hb).2 (fun hv => ?_))⟩
    exact own_apart h1.own a6 (by decide) hv hb
  refine ⟨⟨Nat.le_trans h1.low hs2, ?_, by rw [List.length_append, List.length_append, h.len]; rfl, fun i hi => ?_⟩, ?_⟩
  · rw [List.length_append, entCells_snoc]; exact hown2
  · rw [List.length_append] at hi
    by_cases hl : i < l.length
    · rw [getD_app_left (by rw [h.len]; exact hl), getD_app_left hl]; exact hkeep (h1.rows i hl)
    · have : i = l.length := by simp at hi; omega
      subst this
      rw [getD_app_right (by rw [h.len]; exact Nat.le_refl _), getD_app_right (Nat.le_refl _), h.len, Nat.sub_self]
      exact hkeep hx
  · exact ((hb1.mono h.low).alloc h1.low o).grown hg2 (by simp; have := h1.low; omega) (fun b hb => (own_lt h1.own hb).1)
end Go.Proofs.Ytnfknkihiapgiaa.bf
