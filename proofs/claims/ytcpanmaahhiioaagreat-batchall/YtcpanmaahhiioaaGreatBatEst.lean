/- Things of one's own, many at once (slices of slices): who changes one leaves the others as they are. And room for an element in between: an append and a copy. -/
import Derived.Test.YtcpanmaahhiioaaGreatMgChgF
namespace Go.Proofs.YtcpanmaahhiioaaGreat.bt
open Go.ChangeShapes Go.WideShapes Go.ChangeAt Go.RowKit
open vl
set_option linter.unusedVariables false
set_option linter.unusedSimpArgs false
/-- a slice of one's own: its value, its elements' type and size, how many, and their cells -/
structure Own1 where
  v : Value
  e : TypeId
  s : Nat
  n : Nat
  xs : List Value
def Own1.here (x : Own1) (w : World) (base : Nat) : Prop := w.ownsRow base x.e x.s x.v x.n x.xs
def apart (x y : Own1) : Prop := ∀ g, x.v.ownBlock = some g → y.v.ownBlock ≠ some g
theorem apart_symm {x y : Own1} (h : apart x y) : apart y x := fun g h1 h2 => h g h2 h1
structure Est (w : World) (base : Nat) (E : List Own1) : Prop where
  low : base ≤ w.heap.size
  own : ∀ x ∈ E, x.here w base
  two : E.Pairwise apart
theorem Est_nil {w : World} {base : Nat} (h : base ≤ w.heap.size) : Est w base [] := ⟨h, fun x hx => absurd hx List.not_mem_nil, List.Pairwise.nil⟩
theorem Est_perm {w : World} {base : Nat} {E E' : List Own1} (h : Est w base E) (hp : E.Perm E') : Est w base E' :=
  ⟨h.low, fun x hx => h.own x (hp.mem_iff.2 hx), hp.pairwise h.two (fun h => apart_symm h)⟩
theorem Est_tail {w : World} {base : Nat} {x : Own1} {E : List Own1} (h : Est w base (x :: E)) : Est w base E :=
  ⟨h.low, fun y hy => h.own y (List.mem_cons_of_mem _ hy), (List.pairwise_cons.1 h.two).2⟩
theorem Est_below {w w' : World} {base : Nat} {E : List Own1} (h : Est w base E) (hb : Below w.heap.size w w') : Est w' base E :=
  ⟨Nat.le_trans h.low hb.size, fun x hx => ch.own_below (h.own x hx) hb, h.two⟩
/-- one is changed: the others stay -/
theorem Est_frame {w w2 : World} {base : Nat} {x x' : Own1} {E : List Own1} (h : Est w base (x :: E)) (hs : w.heap.size ≤ w2.heap.size) (hblk : ∀ b, b < w.heap.size → x.v.ownBlock ≠ some b → w2.heap[b]? = w.heap[b]?) (hx : x'.here w2 base)
    (hat : ∀ g, x'.v.ownBlock = some g → x.v.ownBlock = some g ∨ w.heap.size ≤ g) : Est w2 base (x' :: E) := by
  have h2 := List.pairwise_cons.1 h.two
  refine ⟨Nat.le_trans h.low hs, fun y hy => ?_, List.pairwise_cons.2 ⟨fun y hy g hg => ?_, h2.2⟩⟩
  · rcases List.mem_cons.1 hy with rfl | hy
    · exact hx
    · have hy' := h.own y (List.mem_cons_of_mem _ hy)
      exact ch.own_same hy' (fun g hg => hblk g (ch.own_lt hy' hg).2 (fun e => h2.1 y hy g e hg))
  · rcases hat g hg with h3 | h3
    · exact h2.1 y hy g h3
    · intro e
      have := (ch.own_lt (h.own y (List.mem_cons_of_mem _ hy)) e).2
      omega
theorem Est_grow {w w2 : World} {base : Nat} {x x' : Own1} {E : List Own1} (h : Est w base (x :: E)) (hg : w.grownBy w2 x.v.ownBlock) (hx : x'.here w2 base) (hat : ∀ g, x'.v.ownBlock = some g → x.v.ownBlock = some g ∨ w.heap.size ≤ g) : Est w2 base (x' :: E) :=
  Est_frame h hg.size (fun b hb ho => hg.block b hb (fun e => ho e.symm)) hx hat
/-- a new one -/
theorem Est_new {w w' : World} {base : Nat} {x : Own1} {E : List Own1} (h : Est w base E) (hb : Below w.heap.size w w') (hx : x.here w' base) (hn : ∀ g, x.v.ownBlock = some g → w.heap.size ≤ g) : Est w' base (x :: E) := by
  have h' := Est_below h hb
  refine ⟨h'.low, fun y hy => ?_, List.pairwise_cons.2 ⟨fun y hy g hg e => ?_, h.two⟩⟩
  · rcases List.mem_cons.1 hy with rfl | hy
    · exact hx
    · exact h'.own y hy
  · have := (ch.own_lt (h.own y hy) e).2
    have := hn g hg
    omega
/-- a cell is set -/
theorem Est_set {w : World} {base g n cap j : Nat} {e : TypeId} {s : Nat} {xs : List Value} {E : List Own1} (h : Est w base (⟨.slice (some ⟨g, 0, none⟩) n cap, e, s, n, xs⟩ :: E)) (hj : j < n * s) (x : Value) :
    Est (w.setCell ⟨g, j, none⟩ x) base (⟨.slice (some ⟨g, 0, none⟩) n cap, e, s, n, xs.set j x⟩ :: E) := by
  have h1 : w.ownsRow base e s (.slice (some ⟨g, 0, none⟩) n cap) n xs := h.own _ (List.mem_cons_self ..)
  refine Est_frame h (by simp [World.setCell]) (fun b hb ho => Below.heap_setCell _ _ _ b (fun e => ho (by rw [e]; rfl))) (ch.own_set h1 j hj x) (fun b hb => .inl hb)
theorem run_copyS {w : World} (t e : TypeId) (i0 : TypeInfo) (s : Nat) (hu : Tryz.prog.underlying t = some (.slice e)) (hi : Tryz.prog.info? e = some i0) (hz1 : i0.size = s) (ty : TypeId) (g o dLen dCap : Nat) (a : Addr) (sLen sCap : Nat) (cur : Array Value) (te : TypeId) (cs : List Value) (hg : w.heap[g]? = some (.cells cur te (0, 0))) (hn : cs.length = Nat.min sLen dLen * s)
    (hsrc : ∀ j v, cs[j]? = some v → w.cell? (a.add j) = some v) (hfit : o + cs.length ≤ cur.size) (h1 : ∀ v ∈ cs, v.oneCell' = true) :
    (Builtin.copy_ #[t, t] ty #[.slice (some ⟨g, o, none⟩) dLen dCap, .slice (some a) sLen sCap]).run Tryz.prog w = .ok (goInt (Nat.min sLen dLen)) (w.setRow g (cur.toList.take o ++ cs ++ cur.toList.drop (o + cs.length)).toArray) := by
  have hl := run_loadCells_list (P := Tryz.prog) w a cs hsrc
  have hst := run_storeCells_at Tryz.prog g o te cs 0 cur w hg (by simpa using hfit) h1
  simp [Builtin.copy_, run_underlying hu, Builtin.lenOf, Builtin.firstCells, sizeOf, typeInfo, hi, hz1, ← hn, hl, hst]
theorem run_copyS_none {w : World} (t e : TypeId) (i0 : TypeInfo) (s : Nat) (hu : Tryz.prog.underlying t = some (.slice e)) (hi : Tryz.prog.info? e = some i0) (hz1 : i0.size = s) (ty : TypeId) (d : Option Addr) (dLen dCap : Nat) (a : Option Addr) (sLen sCap : Nat) (hn : Nat.min sLen dLen = 0) :
    (Builtin.copy_ #[t, t] ty #[.slice d dLen dCap, .slice a sLen sCap]).run Tryz.prog w = .ok (goInt 0) w := by
  have hl : ∀ x, (loadCells x 0).run Tryz.prog w = .ok #[] w := fun x => run_loadCells_list (P := Tryz.prog) w x [] (fun j v h => by cases h)
  cases a <;> cases d <;> simp [Builtin.copy_, run_underlying hu, Builtin.lenOf, Builtin.firstCells, sizeOf, typeInfo, hi, hz1, hn, hl, storeCells]
theorem copy_listS (s : Nat) (fA fB z S : List Value) (hz : z.length = s) : ((fA ++ (fB ++ z) ++ S).take (fA.length + s) ++ fB ++ (fA ++ (fB ++ z) ++ S).drop (fA.length + s + fB.length)) = (fA ++ (fB ++ z).take s ++ fB) ++ S := by
  have h1 : (fA ++ (fB ++ z) ++ S).take (fA.length + s) = fA ++ (fB ++ z).take s := by
    rw [List.append_assoc, List.take_length_add_append, List.take_append_of_le_length (by rw [List.length_append]; omega)]
  have h2 : (fA ++ (fB ++ z) ++ S).drop (fA.length + s + fB.length) = S := by
    rw [show fA.length + s + fB.length = (fA ++ (fB ++ z)).length by rw [List.length_append, List.length_append]; omega]
    exact List.drop_left
  rw [h1, h2]
/-- room for an element in between, behind an append of one -/
theorem own_room {w2 : World} {base g cap n na nb s : Nat} {fA fB z : List Value} (t e : TypeId) (i0 : TypeInfo) (hu : Tryz.prog.underlying t = some (.slice e)) (hi : Tryz.prog.info? e = some i0) (hz1 : i0.size = s)
    (hown2 : w2.ownsRow base e s (.slice (some ⟨g, 0, none⟩) (n + 1) cap) (n + 1) (fA ++ fB ++ z)) (hA : fA.length = na * s) (hB : fB.length = nb * s) (hz : z.length = s) (hn : na + nb = n) (hone : ∀ u ∈ fB, u.oneCell' = true)
    (d2 s2 : Option Addr) (dc sc : Nat) (hd : 0 < nb → d2 = some ⟨g, (na + 1) * s, none⟩) (hs : 0 < nb → s2 = some ⟨g, na * s, none⟩) (ty : TypeId) :
    ∃ w3, (Builtin.copy_ #[t, t] ty #[.slice d2 nb dc, .slice s2 (nb + 1) sc]).run Tryz.prog w2 = .ok (goInt nb) w3 ∧
      (∃ y, y.length = s ∧ w3.ownsRow base e s (.slice (some ⟨g, 0, none⟩) (n + 1) cap) (n + 1) (fA ++ y ++ fB)) ∧ w3.heap.size = w2.heap.size ∧ (∀ b, b ≠ g → w3.heap[b]? = w2.heap[b]?) ∧ Below g w2 w3 := by
  have hmin : Nat.min (nb + 1) nb = nb := Nat.min_eq_right (by omega)
  have hyl : ((fB ++ z).take s).length = s := by rw [List.length_take, List.length_append, hz]; omega
  by_cases hnb : 0 < nb
  · have ed := hd hnb
    have es := hs hnb
    subst ed es
    rcases hown2.2 with ⟨hv, _⟩ | ⟨g', cap', cur, hv, h1, hg, h2, h3, h4, h5⟩
    · cases hv
    · injection hv with e1 e2 e3
      injection e1 with e1
      injection e1 with e1 _ _
      subst e1 e3
      have hcs : ∀ j u, fB[j]? = some u → w2.cell? ((⟨g, na * s, none⟩ : Addr).add j) = some u := fun j u hu => by
        rw [ch.add_at]
        have hc := World.ownsRow.cells hown2 (g := g) rfl (na * s + j) u (by
          have hj : j < fB.length := by
            rcases Nat.lt_or_ge j fB.length with h | h
            · exact h
            · rw [List.getElem?_eq_none h] at hu; cases hu
          rw [List.append_assoc, List.getElem?_append_right (by omega), hA, show na * s + j - na * s = j by omega, List.getElem?_append_left hj]
          exact hu)
        rw [ch.addr_add, Nat.zero_add] at hc
        exact hc
      have hfit : (na + 1) * s + fB.length ≤ cur.size := by
        have h6 : (n + 1) * s ≤ cap * s := Nat.mul_le_mul_right _ h2
        have h7 : (n + 1) * s = (na + 1) * s + nb * s := by rw [← hn, show na + nb + 1 = (na + 1) + nb by omega, Nat.add_mul]
        omega
      have hrun := run_copyS t e i0 s hu hi hz1 ty g ((na + 1) * s) nb dc ⟨g, na * s, none⟩ (nb + 1) sc cur e fB hg (by rw [hmin, hB]) hcs hfit hone
      rw [hmin] at hrun
      obtain ⟨S, hS⟩ : ∃ S, cur.toList = fA ++ (fB ++ z) ++ S := ⟨cur.toList.drop ((n + 1) * s), by
        have e := List.take_append_drop ((n + 1) * s) cur.toList
        rw [h5, List.append_assoc fA fB z] at e
        exact e.symm⟩
      have h8 : (na + 1) * s = fA.length + s := by rw [Nat.add_mul, Nat.one_mul, hA]
      have hnew : cur.toList.take ((na + 1) * s) ++ fB ++ cur.toList.drop ((na + 1) * s + fB.length) = (fA ++ (fB ++ z).take s ++ fB) ++ S := by
        rw [hS, h8]
        exact copy_listS s fA fB z S hz
      rw [hnew] at hrun
      have hlen : (fA ++ (fB ++ z).take s ++ fB).length = (n + 1) * s := by
        simp only [List.length_append, hyl, hA, hB]
        have h7 : (n + 1) * s = (na + 1) * s + nb * s := by rw [← hn, show na + nb + 1 = (na + 1) + nb by omega, Nat.add_mul]
        rw [h7, Nat.add_mul, Nat.one_mul]
      have hsz : cur.size = ((fA ++ (fB ++ z).take s ++ fB) ++ S).length := by
        have h9 : cur.size = cur.toList.length := Array.length_toList.symm
        rw [h9, hS]
        simp only [List.length_append, hyl, hz]
        omega
      refine ⟨_, hrun, ⟨(fB ++ z).take s, hyl, hlen, .inr ⟨g, cap, _, rfl, h1, setRow_heap w2 g cur _ _ _ hg, h2, h3, ?_, ?_⟩⟩, by simp [World.setRow], fun b hb => setRow_other w2 g b _ hb, ⟨rfl, rfl, rfl, by simp [World.setRow], fun k hk => setRow_other w2 g k _ (by omega)⟩⟩
      · rw [List.size_toArray, ← hsz]; exact h4
      · rw [← hlen]
        exact List.take_left
  · have hB0 : fB = [] := List.length_eq_zero_iff.1 (by rw [hB, show nb = 0 by omega, Nat.zero_mul])
    have hb0 : nb = 0 := by omega
    subst hB0 hb0
    have hrun := run_copyS_none (w := w2) t e i0 s hu hi hz1 ty d2 0 dc s2 1 sc rfl
    refine ⟨w2, hrun, ⟨z, hz, by rw [List.append_nil] at hown2 ⊢; exact hown2⟩, rfl, fun b _ => rfl, Below.refl _ _⟩
end Go.Proofs.YtcpanmaahhiioaaGreat.bt
