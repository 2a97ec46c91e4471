import Derived.Test.YtbfbgdinhiglaaaGreatS15
import Derived.Test.YtbfbgdinhiglaaaGreatS9
import Derived.Shelf.Spec.SlicesInsertGrow
/- slices.Insert of one element at any place, at tallies and at groups of one's own. -/
namespace Go.Proofs.YtbfbgdinhiglaaaGreat.gr
open Go.ChangeShapes Go.WideShapes Go.ChangeAt Go.RowKit
open vl pl bt
set_option linter.unusedVariables false
set_option linter.unusedSimpArgs false
theorem insT_any (ad : Option Addr) (n cap i : Nat) (A B : List Value) (base X : Nat) (k1 k2 : Int) (ks : ByteArray) (m : Int) (w : World) (ho : w.ownsRow base 82 4 (.slice ad n cap) n (A ++ B)) (hA : A.length = i * 4) (hi : i ≤ n) (hn : n ≤ 1073741824) (hb : base ≤ w.heap.size) (hX : w.heap[X]? = some (.cells #[.int .i64 k1, .int .i64 k2, .string ks, .int .i64 m] 82 (0, 0))) (hne : some X ≠ (Value.slice ad n cap).ownBlock) (hone : ∀ u ∈ B, u.oneCell' = true) :
    Calls Tryz.prog 132 #[.slice ad n cap, .int .i64 i, .slice (some ⟨X, 0, none⟩) 1 1] w fun e w' => ∃ g cap2, e = .returned (.slice (some ⟨g, 0, none⟩) (n + 1) cap2) ∧ w'.ownsRow base 82 4 (.slice (some ⟨g, 0, none⟩) (n + 1) cap2) (n + 1) (A ++ [.int .i64 k1, .int .i64 k2, .string ks, .int .i64 m] ++ B) ∧ w.heap.size ≤ w'.heap.size ∧ (∀ b, b < w.heap.size → (Value.slice ad n cap).ownBlock ≠ some b → w'.heap[b]? = w.heap[b]?) ∧ ((Value.slice ad n cap).ownBlock = some g ∨ w.heap.size ≤ g) ∧ Below base w w' := by
  have hBl : B.length = (n - i) * 4 := by
    have := ho.1
    rw [List.length_append, hA] at this
    omega
  by_cases hin : i = n
  · subst hin
    have hB0 : B = [] := List.length_eq_zero_iff.1 (by rw [hBl]; omega)
    subst hB0
    rw [List.append_nil] at ho
    refine (insT_end ad i cap A base X k1 k2 ks m w ho hn hb (by simp [World.cell?, hX]) (by simp [World.cell?, hX]) (by simp [World.cell?, hX]) (by simp [World.cell?, hX])).mono ?_
    rintro e w' ⟨g, cap2, rfl, h1, h2, h3, h4⟩
    refine ⟨g, cap2, rfl, by rw [List.append_nil]; exact h1, h2.size, fun b hbl hnb => h2.block b hbl (fun e => hnb e.symm), ?_, (Below.refl _ _).grown h2 hb (fun k hk => (ch.own_lt ho hk).1)⟩
    rcases h3 with h3 | h3
    · exact .inl h3
    · exact .inr (by omega)
  · rcases ho.2 with ⟨hv, h0⟩ | ⟨g, cap', cur, hv, h1, hg, h2, h3, h4, h5⟩
    · omega
    · cases hv
      have hlt : g < w.heap.size := (ch.own_lt ho (g := g) rfl).2
      have hXg : X ≠ g := fun e => hne (by rw [e]; rfl)
      by_cases hroom : n + 1 ≤ cap
      · refine (insT_shift g n cap i A B base X k1 k2 ks m w ho hA (by omega) hroom hX hXg hone).mono ?_
        rintro e w' ⟨rfl, k1, k2, k3, k4⟩
        exact ⟨g, cap, rfl, k1, by omega, fun b _ hnb => k2 b (fun e => hnb (by rw [e]; rfl)), .inl rfl, k4.mono h1⟩
      · refine (insT_grow g n cap i A B base X k1 k2 ks m w ho hA (by omega) (by omega) hn (by simp [World.cell?, hX]) (by simp [World.cell?, hX]) (by simp [World.cell?, hX]) (by simp [World.cell?, hX]) hone).mono ?_
        rintro e w' ⟨cap2, rfl, k1, k2⟩
        exact ⟨w.heap.size, cap2, rfl, k1, k2.size, fun b hbl _ => k2.block b hbl, .inr (Nat.le_refl _), k2.mono hb⟩
theorem insG_any (ad : Option Addr) (n cap i : Nat) (A B : List Value) (base X : Nat) (ra : Option Addr) (rl rc : Nat) (m : Int) (ba : Option Addr) (bl bc : Nat) (w : World) (ho : w.ownsRow base 53 3 (.slice ad n cap) n (A ++ B)) (hA : A.length = i * 3) (hi : i ≤ n) (hn : n ≤ 1073741824) (hb : base ≤ w.heap.size) (hX : w.heap[X]? = some (.cells #[.slice ra rl rc, .int .i64 m, .slice ba bl bc] 53 (0, 0))) (hne : some X ≠ (Value.slice ad n cap).ownBlock) (hone : ∀ u ∈ B, u.oneCell' = true) :
    Calls Tryz.prog 85 #[.slice ad n cap, .int .i64 i, .slice (some ⟨X, 0, none⟩) 1 1] w fun e w' => ∃ g cap2, e = .returned (.slice (some ⟨g, 0, none⟩) (n + 1) cap2) ∧ w'.ownsRow base 53 3 (.slice (some ⟨g, 0, none⟩) (n + 1) cap2) (n + 1) (A ++ [.slice ra rl rc, .int .i64 m, .slice ba bl bc] ++ B) ∧ w.heap.size ≤ w'.heap.size ∧ (∀ b, b < w.heap.size → (Value.slice ad n cap).ownBlock ≠ some b → w'.heap[b]? = w.heap[b]?) ∧ ((Value.slice ad n cap).ownBlock = some g ∨ w.heap.size ≤ g) ∧ Below base w w' := by
  have hBl : B.length = (n - i) * 3 := by
    have := ho.1
    rw [List.length_append, hA] at this
    omega
  by_cases hin : i = n
  · subst hin
    have hB0 : B = [] := List.length_eq_zero_iff.1 (by rw [hBl]; omega)
    subst hB0
    rw [List.append_nil] at ho
    refine (insG_end ad i cap A base X ra rl rc m ba bl bc w ho hn hb (by simp [World.cell?, hX]) (by simp [World.cell?, hX]) (by simp [World.cell?, hX])).mono ?_
    rintro e w' ⟨g, cap2, rfl, h1, h2, h3, h4⟩
    refine ⟨g, cap2, rfl, by rw [List.append_nil]; exact h1, h2.size, fun b hbl hnb => h2.block b hbl (fun e => hnb e.symm), ?_, (Below.refl _ _).grown h2 hb (fun k hk => (ch.own_lt ho hk).1)⟩
    rcases h3 with h3 | h3
    · exact .inl h3
    · exact .inr (by omega)
  · rcases ho.2 with ⟨hv, h0⟩ | ⟨g, cap', cur, hv, h1, hg, h2, h3, h4, h5⟩
    · omega
    · cases hv
      have hlt : g < w.heap.size := (ch.own_lt ho (g := g) rfl).2
      have hXg : X ≠ g := fun e => hne (by rw [e]; rfl)
      by_cases hroom : n + 1 ≤ cap
      · refine (insG_shift g n cap i A B base X ra rl rc m ba bl bc w ho hA (by omega) hroom hX hXg hone).mono ?_
        rintro e w' ⟨rfl, k1, k2, k3, k4⟩
        exact ⟨g, cap, rfl, k1, by omega, fun b _ hnb => k2 b (fun e => hnb (by rw [e]; rfl)), .inl rfl, k4.mono h1⟩
      · refine (insG_grow g n cap i A B base X ra rl rc m ba bl bc w ho hA (by omega) (by omega) hn (by simp [World.cell?, hX]) (by simp [World.cell?, hX]) (by simp [World.cell?, hX]) hone).mono ?_
        rintro e w' ⟨cap2, rfl, k1, k2⟩
        exact ⟨w.heap.size, cap2, rfl, k1, k2.size, fun b hbl _ => k2.block b hbl, .inr (Nat.le_refl _), k2.mono hb⟩
end Go.Proofs.YtbfbgdinhiglaaaGreat.gr
/- An element taken out of a row of one's own: an append onto itself, and a clear. -/
namespace Go.Proofs.YtbfbgdinhiglaaaGreat.gr
open Go.ChangeShapes Go.WideShapes Go.ChangeAt Go.RowKit
open vl pl bt
set_option linter.unusedVariables false
set_option linter.unusedSimpArgs false
/-- append(s[:i], s[i+1:]...) -/
theorem own_out {w : World} {base : Nat} {e : TypeId} {s n cap g : Nat} {A x C : List Value} (h : w.ownsRow base e s (.slice (some ⟨g, 0, none⟩) n cap) n (A ++ x ++ C)) (t : TypeId) (i0 : TypeInfo) (hu : Tryz.prog.underlying t = some (.slice e)) (hi : Tryz.prog.info? e = some i0) (hz1 : i0.size = s) (ty : TypeId)
    (i m : Nat) (hA : A.length = i * s) (hx : x.length = s) (hC : C.length = m * s) (hn : n = i + 1 + m) (hone : ∀ u ∈ C, u.oneCell' = true) (a : Addr) (ha : 0 < m → a = ⟨g, (i + 1) * s, none⟩) (c : Nat) :
    ∃ w1 y, (Builtin.append_ #[t, t] ty #[.slice (some ⟨g, 0, none⟩) i cap, .slice (some a) m c]).run Tryz.prog w = .ok (.slice (some ⟨g, 0, none⟩) (i + m) cap) w1 ∧ w1.ownsRow base e s (.slice (some ⟨g, 0, none⟩) n cap) n (A ++ C ++ y) ∧ y.length = s ∧ w1.heap.size = w.heap.size ∧ (∀ b, b ≠ g → w1.heap[b]? = w.heap[b]?) ∧ Below g w w1 := by
  rcases h.2 with ⟨hv, _⟩ | ⟨g', cap', cur, hv, h1, hg, h2, h3, h4, h5⟩
  · cases hv
  · cases hv
    have hm : n * s ≤ cap * s := Nat.mul_le_mul_right _ h2
    have hns : n * s = i * s + s + m * s := by rw [hn, Nat.add_mul, Nat.add_mul, Nat.one_mul]
    obtain ⟨S, hS⟩ : ∃ S, cur.toList = A ++ x ++ C ++ S := ⟨cur.toList.drop (n * s), by
      have e := List.take_append_drop (n * s) cur.toList
      rw [h5] at e
      exact e.symm⟩
    have hcl : cur.size = cap * s := h4
    have hsrc : ∀ j u, C[j]? = some u → w.cell? (a.add j) = some u := fun j u hu => by
      have hj : j < C.length := by
        rcases Nat.lt_or_ge j C.length with h | h
        · exact h
        · rw [List.getElem?_eq_none h] at hu; cases hu
      have hm0 : 0 < m := by
        rcases Nat.eq_zero_or_pos m with e | e
        · rw [e, Nat.zero_mul] at hC; omega
        · exact e
      rw [ha hm0, ch.add_at]
      have h9 := World.ownsRow.cells h (g := g) rfl ((i + 1) * s + j) u (by
        have hAx : (A ++ x).length = (i + 1) * s := by rw [List.length_append, hA, hx, Nat.add_mul, Nat.one_mul]
        rw [List.getElem?_append_right (by omega), hAx, show (i + 1) * s + j - (i + 1) * s = j by omega]
        exact hu)
      rw [ch.addr_add, Nat.zero_add] at h9
      exact h9
    have hrun := run_append_room (P := Tryz.prog) w t ty e i0 hu hi g i cap cur hg a m c C (by rw [hz1]; exact hC) hsrc hone (by omega) (by rw [hz1, hC, hcl]; omega)
    rw [hz1] at hrun
    have hyl : ((x ++ C).drop C.length).length = s := by rw [List.length_drop, List.length_append, hx]; omega
    have hnew : cur.toList.take (i * s) ++ C ++ cur.toList.drop (i * s + C.length) = (A ++ C ++ (x ++ C).drop C.length) ++ S := by
      rw [hS, ← hA]
      have e1 : (A ++ x ++ C ++ S).take A.length = A := by rw [List.append_assoc, List.append_assoc]; exact List.take_left
      have e2 : (A ++ x ++ C ++ S).drop (A.length + C.length) = (x ++ C).drop C.length ++ S := by
        rw [List.append_assoc A, List.append_assoc A, List.drop_append, List.drop_append_of_le_length (by rw [List.length_append]; omega), List.drop_eq_nil_of_le (by omega), Nat.add_sub_cancel_left, List.nil_append]
      rw [e1, e2]
      simp only [List.append_assoc]
    rw [hnew] at hrun
    have hsz : ((A ++ C ++ (x ++ C).drop C.length) ++ S).length = cur.size := by
      have h9 : cur.size = cur.toList.length := Array.length_toList.symm
      rw [h9, hS]
      simp only [List.length_append, hyl, hx]
      omega
    have hnl : (A ++ C ++ (x ++ C).drop C.length).length = n * s := by rw [List.length_append, List.length_append, hyl, hA, hC]; omega
    refine ⟨_, (x ++ C).drop C.length, hrun, ⟨hnl, .inr ⟨g, cap, _, rfl, h1, setRow_heap w g cur _ _ _ hg, h2, h3, ?_, ?_⟩⟩, hyl, by simp [World.setRow], fun b hb => setRow_other w g b _ hb, ⟨rfl, rfl, rfl, by simp [World.setRow], fun k hk => setRow_other w g k _ (by omega)⟩⟩
    · rw [List.size_toArray, hsz]; exact h4
    · rw [← hnl]
      exact List.take_left
/-- clear(s[n-1:n]), and one element less -/
theorem own_cut {w : World} {base : Nat} {e : TypeId} {s n cap g : Nat} {D y : List Value} (h : w.ownsRow base e s (.slice (some ⟨g, 0, none⟩) (n + 1) cap) (n + 1) (D ++ y)) (t : TypeId) (i0 : TypeInfo) (z : Value) (hu : Tryz.prog.underlying t = some (.slice e)) (hi : Tryz.prog.info? e = some i0) (hz0 : i0.zero = some z) (hzs : z.cells.size = s) (hz1 : (Builtin.zeroCells z.cells 1).toList = z.cells.toList) (hzo : ∀ v ∈ z.cells.toList, v.oneCell' = true) (ty : TypeId)
    (hD : D.length = n * s) (hy : y.length = s) (c : Nat) :
    ∃ w1, (Builtin.clear_ #[t] ty #[.slice (some ⟨g, n * s, none⟩) 1 c]).run Tryz.prog w = .ok (.tuple #[]) w1 ∧ w1.ownsRow base e s (.slice (some ⟨g, 0, none⟩) n cap) n D ∧ w1.heap.size = w.heap.size ∧ (∀ b, b ≠ g → w1.heap[b]? = w.heap[b]?) ∧ Below g w w1 := by
  rcases h.2 with ⟨hv, _⟩ | ⟨g', cap', cur, hv, h1, hg, h2, h3, h4, h5⟩
  · cases hv
  · cases hv
    have hm : (n + 1) * s ≤ cap * s := Nat.mul_le_mul_right _ h2
    have hns : (n + 1) * s = n * s + s := by rw [Nat.add_mul, Nat.one_mul]
    obtain ⟨S, hS⟩ : ∃ S, cur.toList = D ++ y ++ S := ⟨cur.toList.drop ((n + 1) * s), by
      have e := List.take_append_drop ((n + 1) * s) cur.toList
      rw [h5] at e
      exact e.symm⟩
    have hzl : z.cells.toList.length = s := by rw [Array.length_toList]; exact hzs
    have hst := run_storeCells_at Tryz.prog g (n * s) e z.cells.toList 0 cur w hg (by rw [hzl, h4]; omega) hzo
    rw [Nat.add_zero] at hst
    have hrun : (Builtin.clear_ #[t] ty #[.slice (some ⟨g, n * s, none⟩) 1 c]).run Tryz.prog w = .ok (.tuple #[]) (w.setRow g (cur.toList.take (n * s) ++ z.cells.toList ++ cur.toList.drop (n * s + z.cells.toList.length)).toArray) := by
      simp [Builtin.clear_, run_underlying hu, zeroValue, typeInfo, hi, hz0, hz1, hst]
    have hnew : cur.toList.take (n * s) ++ z.cells.toList ++ cur.toList.drop (n * s + z.cells.toList.length) = D ++ (z.cells.toList ++ S) := by
      rw [hS, ← hD, hzl, ← hy]
      have e1 : (D ++ y ++ S).take D.length = D := by rw [List.append_assoc]; exact List.take_left
      have e2 : (D ++ y ++ S).drop (D.length + y.length) = S := by rw [← List.length_append]; exact List.drop_left
      rw [e1, e2, List.append_assoc]
    have hsz : (D ++ (z.cells.toList ++ S)).length = cur.size := by
      have h9 : cur.size = cur.toList.length := Array.length_toList.symm
      rw [h9, hS]
      simp only [List.length_append, hzl, hy]
      omega
    rw [hnew] at hrun
    refine ⟨_, hrun, ⟨hD, .inr ⟨g, cap, _, rfl, h1, setRow_heap w g cur _ _ _ hg, by omega, h3, ?_, ?_⟩⟩, by simp [World.setRow], fun b hb => setRow_other w g b _ hb, ⟨rfl, rfl, rfl, by simp [World.setRow], fun k hk => setRow_other w g k _ (by omega)⟩⟩
    · rw [List.size_toArray, hsz]; exact h4
    · rw [← hD]
      exact List.take_left
end Go.Proofs.YtbfbgdinhiglaaaGreat.gr
/- slices.Delete of one element, at tallies and at groups of one's own. -/
namespace Go.Proofs.YtbfbgdinhiglaaaGreat.gr
open Go.ChangeShapes Go.WideShapes Go.ChangeAt Go.RowKit
open vl pl bt
set_option linter.unusedVariables false
set_option linter.unusedSimpArgs false
attribute [local go_sem] Oper.semAt_some
theorem step_append_runI {P : Program} {ops : Array Oper} {o : Oper} {a : Act} {w : World} {K : Act → World → Prop} {Q : Exit → Act → World → Prop} {E : Prop}
    (hg : o.guard = none) (d x : Operand) (dT sT : TypeId) (hop : o.op = Op.call { callee := Callee.builtin Builtin.append, args := #[d, x], argTypes := #[dT, sT] })
    (v u : Value) (hd : a.eval d = v) (hx : a.eval x = u) {v' : Value} {w' : World} (hr : (Builtin.append_ #[dT, sT] o.type #[v, u]).run P w = .ok v' w') (hK : K (a.put o.dst v') w') :
    if Region.wanted o (yielded ops a.tmps) = true then Oper.wp P o a w K Q else E := by
  have hw : Region.wanted o (yielded ops a.tmps) = true := by simp [Region.wanted, hg]
  rw [if_pos hw]
  unfold Oper.wp
  simp [execOp, hop, resolve, invoke, builtin, hd, hx, hr, Result.andThen]
  exact hK
set_option maxRecDepth 100000 in
set_option maxHeartbeats 4000000 in
theorem delT_any (g m cap i : Nat) (A x C : List Value) (base : Nat) (w : World) (ho : w.ownsRow base 82 4 (.slice (some ⟨g, 0, none⟩) (i + 1 + m) cap) (i + 1 + m) (A ++ x ++ C)) (hA : A.length = i * 4) (hx : x.length = 4) (hn : i + 1 + m ≤ 1073741824) (hone : ∀ u ∈ C, u.oneCell' = true) :
    Calls Tryz.prog 129 #[.slice (some ⟨g, 0, none⟩) (i + 1 + m) cap, .int .i64 i, .int .i64 ((i : Int) + 1)] w fun e w' => e = .returned (.slice (some ⟨g, 0, none⟩) (i + m) cap) ∧ w'.ownsRow base 82 4 (.slice (some ⟨g, 0, none⟩) (i + m) cap) (i + m) (A ++ C) ∧ (∀ b, b ≠ g → w'.heap[b]? = w.heap[b]?) ∧ w'.heap.size = w.heap.size ∧ Below g w w' := by
  obtain ⟨i0, hii, hz0, hz1, hz2⟩ := info_parts infoT
  have hcap : i + 1 + m ≤ cap := by
    rcases ho.2 with ⟨hv, _⟩ | ⟨g', cap', cur, hv, h1, hg, h2, h3, h4, h5⟩
    · cases hv
    · cases hv; exact h2
  have hC : C.length = m * 4 := by
    have := ho.1
    rw [List.length_append, List.length_append, hA, hx] at this
    omega
  have hd1 := ch.own_below ho (Below.refl _ _).drew
  obtain ⟨ad, had⟩ : ∃ a : Addr, (if cap = i + 1 then (⟨g, 0, none⟩ : Addr) else ⟨g, (i + 1) * 4, none⟩) = a := ⟨_, rfl⟩
  have hA2 : (if cap = i + 1 then some (⟨g, 0, none⟩ : Addr) else some ⟨g, (i + 1) * 4, none⟩) = some ad := by rw [← had]; split <;> rfl
  obtain ⟨w1, y, hrun1, hown1, hyl, hs1, hb1, hbel1⟩ := own_out hd1 61 i0 Tryz.underlying61 hii hz1 61 i m hA hx hC rfl hone ad (fun h => by rw [← had]; exact if_neg (by omega)) (cap - (i + 1))
  obtain ⟨w2, hrun2, hown2, hs2, hb2, hbel2⟩ := own_cut (n := i + m) (s := 4) (by rw [show i + m + 1 = i + 1 + m by omega]; exact hown1) 61 i0 (.agg #[.int .i64 0, .int .i64 0, .string ⟨#[]⟩, .int .i64 0]) Tryz.underlying61 hii hz0 rfl (by kernel_rfl) (by intro v hv; simp [Value.cells] at hv; rcases hv with rfl | rfl | rfl <;> rfl) 0 (by rw [List.length_append, hA, hC, Nat.add_mul]) hyl (cap - (i + m))
  have HF : Hid (w2.ownsRow base 82 4 (.slice (some ⟨g, 0, none⟩) (i + m) cap) (i + m) (A ++ C) ∧ (∀ b, b ≠ g → w2.heap[b]? = w.heap[b]?) ∧ w2.heap.size = w.heap.size ∧ Below g w w2) := ⟨hown2, fun b hb => (hb2 b hb).trans (hb1 b hb), hs2.trans hs1, ((Below.refl g w).drew.trans hbel1).trans hbel2⟩
  have HR1 : Hid ((Builtin.append_ #[61, 61] 61 #[.slice (some ⟨g, 0, none⟩) i cap, .slice (some ad) m (cap - (i + 1))]).run Tryz.prog w.drew = .ok (.slice (some ⟨g, 0, none⟩) (i + m) cap) w1) := hrun1
  have mixed : Tryz.prog.follows .mixedOrders = true := by kernel_rfl
  have hcm : cap ≤ maxLen := by
    rcases ho.2 with ⟨hv, _⟩ | ⟨g', cap', cur, hv, h1, hg, h2, h3, h4, h5⟩
    · cases hv
    · cases hv; exact h3
  clear had hrun1 hown1 hown2 hs1 hs2 hb1 hb2 hbel1 hbel2 hd1 ho hone hyl hA hx hC
  obtain ⟨n, hn1⟩ : ∃ n, i + 1 + m = n := ⟨_, rfl⟩
  rw [hn1] at hcap hn ⊢
  have e1 : ((i : Int) == (i : Int) + 1) = false := by simp; omega
  have e2 : (0 : Int) ≤ (i : Int) := by omega
  have e3 : (i : Int) ≤ (i : Int) + 1 := by omega
  have e4 : (i : Int) + 1 ≤ (n : Int) := by omega
  have e5 : (n : Int) ≤ (cap : Int) := by omega
  have e6 : ((i : Int) + 1).toNat = i + 1 := by omega
  have e7 : (0 : Int) ≤ (i : Int) + 1 := by omega
  have e8 : (i : Int) ≤ (n : Int) := by omega
  have e9 : i ≤ n := by omega
  have e10 : n - (i + 1) = m := by omega
  have e11 : i ≤ cap := by omega
  have e12 : n - (i + m) = 1 := by omega
  have e13 : ¬ (cap = i + m) := by omega
  have e14 : (i : Int) + (m : Int) ≤ (n : Int) := by omega
  have e15 : (0 : Int) ≤ (i : Int) + (m : Int) := by omega
  have e16 : ((i : Int) + (m : Int)).toNat = i + m := by omega
  have e17 : n ≤ cap := by omega
  have e18 : i + m ≤ n := by omega
  go_enter Tryz.func129, Tryz.ntmps129
  go_wp2
  go_region_law_o (refine step_append_runI rfl _ _ 61 61 rfl (.slice (some ⟨g, 0, none⟩) i cap) (.slice (some ad) m (cap - (i + 1))) (by simp [Act.eval, Act.put]) (by simp [Act.eval, Act.put, hA2, e10]) HR1.out ?_)
  go_wp2
  go_ret
  exact ⟨rfl, HF.out⟩
set_option maxRecDepth 100000 in
set_option maxHeartbeats 4000000 in
theorem delG_any (g m cap i : Nat) (A x C : List Value) (base : Nat) (w : World) (ho : w.ownsRow base 53 3 (.slice (some ⟨g, 0, none⟩) (i + 1 + m) cap) (i + 1 + m) (A ++ x ++ C)) (hA : A.length = i * 3) (hx : x.length = 3) (hn : i + 1 + m ≤ 1073741824) (hone : ∀ u ∈ C, u.oneCell' = true) :
    Calls Tryz.prog 84 #[.slice (some ⟨g, 0, none⟩) (i + 1 + m) cap, .int .i64 i, .int .i64 ((i : Int) + 1)] w fun e w' => e = .returned (.slice (some ⟨g, 0, none⟩) (i + m) cap) ∧ w'.ownsRow base 53 3 (.slice (some ⟨g, 0, none⟩) (i + m) cap) (i + m) (A ++ C) ∧ (∀ b, b ≠ g → w'.heap[b]? = w.heap[b]?) ∧ w'.heap.size = w.heap.size ∧ Below g w w' := by
  obtain ⟨i0, hii, hz0, hz1, hz2⟩ := info_parts infoG
  have hcap : i + 1 + m ≤ cap := by
    rcases ho.2 with ⟨hv, _⟩ | ⟨g', cap', cur, hv, h1, hg, h2, h3, h4, h5⟩
    · cases hv
    · cases hv; exact h2
  have hC : C.length = m * 3 := by
    have := ho.1
    rw [List.length_append, List.length_append, hA, hx] at this
    omega
  have hd1 := ch.own_below ho (Below.refl _ _).drew
  obtain ⟨ad, had⟩ : ∃ a : Addr, (if cap = i + 1 then (⟨g, 0, none⟩ : Addr) else ⟨g, (i + 1) * 3, none⟩) = a := ⟨_, rfl⟩
  have hA2 : (if cap = i + 1 then some (⟨g, 0, none⟩ : Addr) else some ⟨g, (i + 1) * 3, none⟩) = some ad := by rw [← had]; split <;> rfl
  obtain ⟨w1, y, hrun1, hown1, hyl, hs1, hb1, hbel1⟩ := own_out hd1 26 i0 Tryz.underlying26 hii hz1 26 i m hA hx hC rfl hone ad (fun h => by rw [← had]; exact if_neg (by omega)) (cap - (i + 1))
  obtain ⟨w2, hrun2, hown2, hs2, hb2, hbel2⟩ := own_cut (n := i + m) (s := 3) (by rw [show i + m + 1 = i + 1 + m by omega]; exact hown1) 26 i0 (.agg #[.slice none 0 0, .int .i64 0, .slice none 0 0]) Tryz.underlying26 hii hz0 rfl (by kernel_rfl) (by intro v hv; simp [Value.cells] at hv; rcases hv with rfl | rfl | rfl <;> rfl) 0 (by rw [List.length_append, hA, hC, Nat.add_mul]) hyl (cap - (i + m))
  have HF : Hid (w2.ownsRow base 53 3 (.slice (some ⟨g, 0, none⟩) (i + m) cap) (i + m) (A ++ C) ∧ (∀ b, b ≠ g → w2.heap[b]? = w.heap[b]?) ∧ w2.heap.size = w.heap.size ∧ Below g w w2) := ⟨hown2, fun b hb => (hb2 b hb).trans (hb1 b hb), hs2.trans hs1, ((Below.refl g w).drew.trans hbel1).trans hbel2⟩
  have HR1 : Hid ((Builtin.append_ #[26, 26] 26 #[.slice (some ⟨g, 0, none⟩) i cap, .slice (some ad) m (cap - (i + 1))]).run Tryz.prog w.drew = .ok (.slice (some ⟨g, 0, none⟩) (i + m) cap) w1) := hrun1
  have mixed : Tryz.prog.follows .mixedOrders = true := by kernel_rfl
  have hcm : cap ≤ maxLen := by
    rcases ho.2 with ⟨hv, _⟩ | ⟨g', cap', cur, hv, h1, hg, h2, h3, h4, h5⟩
    · cases hv
    · cases hv; exact h3
  clear had hrun1 hown1 hown2 hs1 hs2 hb1 hb2 hbel1 hbel2 hd1 ho hone hyl hA hx hC
  obtain ⟨n, hn1⟩ : ∃ n, i + 1 + m = n := ⟨_, rfl⟩
  rw [hn1] at hcap hn ⊢
  have e1 : ((i : Int) == (i : Int) + 1) = false := by simp; omega
  have e2 : (0 : Int) ≤ (i : Int) := by omega
  have e3 : (i : Int) ≤ (i : Int) + 1 := by omega
  have e4 : (i : Int) + 1 ≤ (n : Int) := by omega
  have e5 : (n : Int) ≤ (cap : Int) := by omega
  have e6 : ((i : Int) + 1).toNat = i + 1 := by omega
  have e7 : (0 : Int) ≤ (i : Int) + 1 := by omega
  have e8 : (i : Int) ≤ (n : Int) := by omega
  have e9 : i ≤ n := by omega
  have e10 : n - (i + 1) = m := by omega
  have e11 : i ≤ cap := by omega
  have e12 : n - (i + m) = 1 := by omega
  have e13 : ¬ (cap = i + m) := by omega
  have e14 : (i : Int) + (m : Int) ≤ (n : Int) := by omega
  have e15 : (0 : Int) ≤ (i : Int) + (m : Int) := by omega
  have e16 : ((i : Int) + (m : Int)).toNat = i + m := by omega
  have e17 : n ≤ cap := by omega
  have e18 : i + m ≤ n := by omega
  go_enter Tryz.func84, Tryz.ntmps84
  go_wp2
  go_region_law_o (refine step_append_runI rfl _ _ 26 26 rfl (.slice (some ⟨g, 0, none⟩) i cap) (.slice (some ad) m (cap - (i + 1))) (by simp [Act.eval, Act.put]) (by simp [Act.eval, Act.put, hA2, e10]) HR1.out ?_)
  go_wp2
  go_ret
  exact ⟨rfl, HF.out⟩
end Go.Proofs.YtbfbgdinhiglaaaGreat.gr
/- slices.BinarySearchFunc at groups and at tallies. -/
namespace Go.Proofs.YtbfbgdinhiglaaaGreat.gr
open Go.ChangeShapes Go.WideShapes Go.ChangeAt Go.RowKit
open vl pl bt
set_option linter.unusedVariables false
set_option linter.unusedSimpArgs false
attribute [local go_sem] Oper.semAt_some
set_option maxHeartbeats 4000000 in
set_option maxRecDepth 100000 in
theorem searchG_any (fn : FuncId) (eg : ∀ args w, (callFunc fn args).run Tryz.prog w = .ok (.enter fn args) w) (F : Nat → Int) (a : Option Addr) (cap : Nat) (xs : List GX) (l : List Grp) (ra : Option Addr) (rn rc : Nat) (w : World) (hl : l.length < 4611686018427387904) (ha : gsAt w a xs l)
    (H : ∀ i w1, i < l.length → Below w.heap.size w w1 → Calls Tryz.prog fn #[grpV (xs.getD i default) (l.getD i default), .slice ra rn rc] w1 fun e w' => e = .returned (.int .i64 (F i)) ∧ Below w1.heap.size w1 w') (hm : ∀ a b, a ≤ b → b < l.length → F b < 0 → F a < 0) :
    Calls Tryz.prog 81 #[.slice a l.length cap, .slice ra rn rc, .func (.func fn) #[] #[]] w fun e w' =>
      (∃ i : Nat, i ≤ l.length ∧ e = .returned (.tuple #[.int .i64 i, .bool (decide (i < l.length) && decide (F i = 0))]) ∧ (∀ t, t < i → F t < 0) ∧ (∀ t, i ≤ t → t < l.length → 0 ≤ F t)) ∧ Below w.heap.size w w' := by
  have HH : Hid (∀ i w1, i < l.length → Below w.heap.size w w1 → Calls Tryz.prog fn #[grpV (xs.getD i default) (l.getD i default), .slice ra rn rc] w1 fun e w' => e = .returned (.int .i64 (F i)) ∧ Below w1.heap.size w1 w') := H
  have M : Hid (∀ a b, a ≤ b → b < l.length → F b < 0 → F a < 0) := hm
  clear H hm
  obtain ⟨n, hn⟩ : ∃ n, l.length = n := ⟨_, rfl⟩
  have HN : Hid (l.length = n) := hn
  rw [hn] at hl HH M ⊢
  clear hn
  go_enter Tryz.func81, Tryz.ntmps81
  go_wp2
  go_loopw [9, 10] (fun s9 s10 wr => ∃ lo hi : Nat, s9 = .int .i64 lo ∧ s10 = .int .i64 hi ∧ lo ≤ hi ∧ hi ≤ n ∧ Below w.heap.size w wr ∧ Hid ((∀ t, t < lo → F t < 0) ∧ (∀ t, hi ≤ t → t < n → 0 ≤ F t))) (fun s9 s10 _ => (intOf s10).toNat - (intOf s9).toNat)
  case atStart => exact ⟨0, n, rfl, rfl, Nat.zero_le _, Nat.le_refl _, Below.refl _ _, (⟨fun t ht => absurd ht (Nat.not_lt_zero _), fun t h1 h2 => by omega⟩ : (∀ t, t < 0 → F t < 0) ∧ (∀ t, n ≤ t → t < n → 0 ≤ F t))⟩
  case round =>
    obtain ⟨lo, hi, rfl, rfl, hlh, hin, hnx, I⟩ := hrel
    by_cases hlt : lo < hi
    · obtain ⟨b, o, e, x1, x2, x3⟩ := ha.cells ((lo + hi) / 2) (by rw [HN.out]; omega)
      subst e
      have q1 := cell_later hnx x1
      have q2 := cell_later hnx x2
      have q3 := cell_later hnx x3
      have KK : Hid (∀ w1, Below wr.heap.size wr w1 → _) := fun w1 hb => HH.out ((lo + hi) / 2) w1 (by omega) (hnx.trans (hb.mono hnx.size))
      unfold grpV at KK
      clear ha x1 x2 x3
      by_cases hy : F ((lo + hi) / 2) < 0
      · go_wp2_with (go_at_fn fn; refine (KK.out _ (Below.refl _ _)).mono ?_; rintro e w' ⟨rfl, hb'⟩)
        go_roundw
        case rel =>
          have I2 : Hid ((∀ t, t < (lo + hi) / 2 + 1 → F t < 0) ∧ (∀ t, hi ≤ t → t < n → 0 ≤ F t)) := ⟨fun t ht => M.out t ((lo + hi) / 2) (by omega) (by omega) hy, I.out.2⟩
          exact ⟨(lo + hi) / 2 + 1, hi, by rw [show ((lo : Int) + (hi : Int)) / 2 + 1 = (((lo + hi) / 2 + 1 : Nat) : Int) by omega], rfl, by omega, hin, hnx.trans (hb'.mono hnx.size), I2⟩
        case measure => simp [intOf]; omega
      · go_wp2_with (go_at_fn fn; refine (KK.out _ (Below.refl _ _)).mono ?_; rintro e w' ⟨rfl, hb'⟩)
        go_roundw
        case rel =>
          have I2 : Hid ((∀ t, t < lo → F t < 0) ∧ (∀ t, (lo + hi) / 2 ≤ t → t < n → 0 ≤ F t)) := ⟨I.out.1, fun t ht htn => Int.not_lt.1 fun h => by have := M.out ((lo + hi) / 2) t ht htn h; omega⟩
          exact ⟨lo, (lo + hi) / 2, rfl, by rw [show ((lo : Int) + (hi : Int)) / 2 = (((lo + hi) / 2 : Nat) : Int) by omega], by omega, by omega, hnx.trans (hb'.mono hnx.size), I2⟩
        case measure => simp [intOf]; omega
    · obtain rfl : hi = lo := by omega
      by_cases hlt2 : hi < n
      · obtain ⟨b, o, e, x1, x2, x3⟩ := ha.cells hi (by rw [HN.out]; omega)
        subst e
        have q1 := cell_later hnx x1
        have q2 := cell_later hnx x2
        have q3 := cell_later hnx x3
        have KK : Hid (∀ w1, Below wr.heap.size wr w1 → _) := fun w1 hb => HH.out hi w1 (by omega) (hnx.trans (hb.mono hnx.size))
        unfold grpV at KK
        clear ha x1 x2 x3
        by_cases hy : F hi = 0
        · have hy' : (F hi == 0) = true := by simpa using hy
          go_wp2_with (go_at_fn fn; refine (KK.out _ (Below.refl _ _)).mono ?_; rintro e w' ⟨rfl, hb'⟩)
          go_ret2
          exact ⟨⟨hi, by omega, by simp [hy, hlt2], I.out.1, I.out.2⟩, hnx.trans (hb'.mono hnx.size)⟩
        · go_wp2_with (go_at_fn fn; refine (KK.out _ (Below.refl _ _)).mono ?_; rintro e w' ⟨rfl, hb'⟩)
          go_ret2
          exact ⟨⟨hi, by omega, by simp [hy, hlt2], I.out.1, I.out.2⟩, hnx.trans (hb'.mono hnx.size)⟩
      · clear ha
        go_wp2
        go_ret2
        exact ⟨⟨hi, by omega, by simp [hlt2], I.out.1, I.out.2⟩, hnx⟩
set_option maxHeartbeats 4000000 in
set_option maxRecDepth 100000 in
theorem searchT_any (fn : FuncId) (eg : ∀ args w, (callFunc fn args).run Tryz.prog w = .ok (.enter fn args) w) (F : Nat → Int) (a : Option Addr) (cap : Nat) (l : List Tal) (tk tn : Int) (ts : ByteArray) (w : World) (hl : l.length < 4611686018427387904) (ha : bagAt w a l)
    (H : ∀ i w1, i < l.length → Below w.heap.size w w1 → Calls Tryz.prog fn #[.agg #[.int .i64 (l.getD i default).1.k, .int .i64 (l.getD i default).1.n, .string (l.getD i default).1.s, .int .i64 (l.getD i default).2], .agg #[.int .i64 tk, .int .i64 tn, .string ts]] w1 fun e w' => e = .returned (.int .i64 (F i)) ∧ Below w1.heap.size w1 w') (hm : ∀ a b, a ≤ b → b < l.length → F b < 0 → F a < 0) :
    Calls Tryz.prog 157 #[.slice a l.length cap, .agg #[.int .i64 tk, .int .i64 tn, .string ts], .func (.func fn) #[] #[]] w fun e w' =>
      (∃ i : Nat, i ≤ l.length ∧ e = .returned (.tuple #[.int .i64 i, .bool (decide (i < l.length) && decide (F i = 0))]) ∧ (∀ t, t < i → F t < 0) ∧ (∀ t, i ≤ t → t < l.length → 0 ≤ F t)) ∧ Below w.heap.size w w' := by
  have HH : Hid (∀ i w1, i < l.length → Below w.heap.size w w1 → Calls Tryz.prog fn #[.agg #[.int .i64 (l.getD i default).1.k, .int .i64 (l.getD i default).1.n, .string (l.getD i default).1.s, .int .i64 (l.getD i default).2], .agg #[.int .i64 tk, .int .i64 tn, .string ts]] w1 fun e w' => e = .returned (.int .i64 (F i)) ∧ Below w1.heap.size w1 w') := H
  have M : Hid (∀ a b, a ≤ b → b < l.length → F b < 0 → F a < 0) := hm
  clear H hm
  obtain ⟨n, hn⟩ : ∃ n, l.length = n := ⟨_, rfl⟩
  have HN : Hid (l.length = n) := hn
  rw [hn] at hl HH M ⊢
  clear hn
  go_enter Tryz.func157, Tryz.ntmps157
  go_wp2
  generalize hV : (World.alloc w _) = V
  have hb0 : Below w.heap.size w V := by rw [← hV]; exact (Below.refl _ _).alloc (Nat.le_refl _) _
  have v0 : V.cell? ⟨w.heap.size, 0, none⟩ = some (.int .i64 tk) := by subst hV; go_simp
  have v1 : V.cell? ⟨w.heap.size, 1, none⟩ = some (.int .i64 tn) := by subst hV; go_simp
  have v2 : V.cell? ⟨w.heap.size, 2, none⟩ = some (.string ts) := by subst hV; go_simp
  clear hV
  go_loopw [9, 10] (fun s9 s10 wr => ∃ lo hi : Nat, s9 = .int .i64 lo ∧ s10 = .int .i64 hi ∧ lo ≤ hi ∧ hi ≤ n ∧ Below V.heap.size V wr ∧ Hid ((∀ t, t < lo → F t < 0) ∧ (∀ t, hi ≤ t → t < n → 0 ≤ F t))) (fun s9 s10 _ => (intOf s10).toNat - (intOf s9).toNat)
  case atStart => exact ⟨0, n, rfl, rfl, Nat.zero_le _, Nat.le_refl _, Below.refl _ _, (⟨fun t ht => absurd ht (Nat.not_lt_zero _), fun t h1 h2 => by omega⟩ : (∀ t, t < 0 → F t < 0) ∧ (∀ t, n ≤ t → t < n → 0 ≤ F t))⟩
  case round =>
    obtain ⟨lo, hi, rfl, rfl, hlh, hin, hnx, I⟩ := hrel
    have r0 := cell_later hnx v0
    have r1 := cell_later hnx v1
    have r2 := cell_later hnx v2
    have hnw : Below w.heap.size w wr := hb0.trans (hnx.mono hb0.size)
    have lw : w.heap.size < wr.heap.size := World.block_lt_of_cell? _ _ r0
    by_cases hlt : lo < hi
    · obtain ⟨m, hm⟩ : ∃ m, (lo + hi) / 2 = m := ⟨_, rfl⟩
      have hme : ((lo : Int) + (hi : Int)) / 2 = (m : Int) := by omega
      have m1 : m < hi := by omega
      have m2 : lo ≤ m := by omega
      obtain ⟨b, o, e, x1, x2, x3, x4⟩ := ha m (by rw [HN.out]; omega)
      subst e
      have q1 := cell_later hnw x1
      have q2 := cell_later hnw x2
      have q3 := cell_later hnw x3
      have q4 := cell_later hnw x4
      have KK : Hid (∀ w1, Below wr.heap.size wr w1 → _) := fun w1 hb => HH.out m w1 (by omega) (hnw.trans (hb.mono hnw.size))
      obtain ⟨⟨⟨xk, xn, xs⟩, xm⟩, hz⟩ : ∃ z, l.getD m default = z := ⟨_, rfl⟩
      rw [hz] at q1 q2 q3 q4 KK
      dsimp only at q1 q2 q3 q4 KK
      clear ha x1 x2 x3 x4 hz
      have i1 : (0 : Int) ≤ (m : Int) := by omega
      have i2 : (m : Int) < (n : Int) := by omega
      by_cases hy : F m < 0
      · go_wp2
        go_region_held3 (fun w' => w'.cell? ⟨b, o + m * 4, none⟩ = some (.int .i64 xk) ∧ w'.cell? ⟨b, o + m * 4 + 1, none⟩ = some (.int .i64 xn) ∧ w'.cell? ⟨b, o + m * 4 + 2, none⟩ = some (.string xs) ∧ w'.cell? ⟨b, o + m * 4 + 3, none⟩ = some (.int .i64 xm) ∧ w'.cell? ⟨w.heap.size, 0, none⟩ = some (.int .i64 tk) ∧ w'.cell? ⟨w.heap.size, 1, none⟩ = some (.int .i64 tn) ∧ w'.cell? ⟨w.heap.size, 2, none⟩ = some (.string ts)) (first | exact ⟨cell_later hQ1 q1, cell_later hQ1 q2, cell_later hQ1 q3, cell_later hQ1 q4, cell_later hQ1 r0, cell_later hQ1 r1, cell_later hQ1 r2⟩ | go_keep)
        (first | (go_at_fn fn; refine (KK.out _ (Below.refl _ _).drew).mono ?_; rintro e w' ⟨rfl, hb'⟩; have hQ1 : Below wr.heap.size wr w' := (Below.refl _ _).drew.trans hb'))
        all_goals
          go_wp2
          go_roundw
          case rel =>
            have I2 : Hid ((∀ t, t < m + 1 → F t < 0) ∧ (∀ t, hi ≤ t → t < n → 0 ≤ F t)) := ⟨fun t ht => M.out t m (by omega) (by omega) hy, I.out.2⟩
            exact ⟨m + 1, hi, by go_num, rfl, by omega, hin, hnx.trans (hQ1.mono hnx.size), I2⟩
          case measure => simp [intOf]; omega
      · go_wp2
        go_region_held3 (fun w' => w'.cell? ⟨b, o + m * 4, none⟩ = some (.int .i64 xk) ∧ w'.cell? ⟨b, o + m * 4 + 1, none⟩ = some (.int .i64 xn) ∧ w'.cell? ⟨b, o + m * 4 + 2, none⟩ = some (.string xs) ∧ w'.cell? ⟨b, o + m * 4 + 3, none⟩ = some (.int .i64 xm) ∧ w'.cell? ⟨w.heap.size, 0, none⟩ = some (.int .i64 tk) ∧ w'.cell? ⟨w.heap.size, 1, none⟩ = some (.int .i64 tn) ∧ w'.cell? ⟨w.heap.size, 2, none⟩ = some (.string ts)) (first | exact ⟨cell_later hQ1 q1, cell_later hQ1 q2, cell_later hQ1 q3, cell_later hQ1 q4, cell_later hQ1 r0, cell_later hQ1 r1, cell_later hQ1 r2⟩ | go_keep)
        (first | (go_at_fn fn; refine (KK.out _ (Below.refl _ _).drew).mono ?_; rintro e w' ⟨rfl, hb'⟩; have hQ1 : Below wr.heap.size wr w' := (Below.refl _ _).drew.trans hb'))
        all_goals
          go_wp2
          go_roundw
          case rel =>
            have I2 : Hid ((∀ t, t < lo → F t < 0) ∧ (∀ t, m ≤ t → t < n → 0 ≤ F t)) := ⟨I.out.1, fun t ht htn => Int.not_lt.1 fun h => by have := M.out m t ht htn h; omega⟩
            exact ⟨lo, m, rfl, rfl, by omega, by omega, hnx.trans (hQ1.mono hnx.size), I2⟩
          case measure => simp [intOf]; omega
    · obtain rfl : hi = lo := by omega
      by_cases hlt2 : hi < n
      · obtain ⟨b, o, e, x1, x2, x3, x4⟩ := ha hi (by rw [HN.out]; omega)
        subst e
        have q1 := cell_later hnw x1
        have q2 := cell_later hnw x2
        have q3 := cell_later hnw x3
        have q4 := cell_later hnw x4
        have KK : Hid (∀ w1, Below wr.heap.size wr w1 → _) := fun w1 hb => HH.out hi w1 (by omega) (hnw.trans (hb.mono hnw.size))
        obtain ⟨⟨⟨xk, xn, xs⟩, xm⟩, hz⟩ : ∃ z, l.getD hi default = z := ⟨_, rfl⟩
        rw [hz] at q1 q2 q3 q4 KK
        dsimp only at q1 q2 q3 q4 KK
        clear ha x1 x2 x3 x4 hz
        have i1 : (0 : Int) ≤ (hi : Int) := by omega
        have i2 : (hi : Int) < (n : Int) := by omega
        by_cases hy : F hi = 0
        · have hy' : (F hi == 0) = true := by simpa using hy
          go_wp2
          go_region_held3 (fun w' => w'.cell? ⟨b, o + hi * 4, none⟩ = some (.int .i64 xk) ∧ w'.cell? ⟨b, o + hi * 4 + 1, none⟩ = some (.int .i64 xn) ∧ w'.cell? ⟨b, o + hi * 4 + 2, none⟩ = some (.string xs) ∧ w'.cell? ⟨b, o + hi * 4 + 3, none⟩ = some (.int .i64 xm) ∧ w'.cell? ⟨w.heap.size, 0, none⟩ = some (.int .i64 tk) ∧ w'.cell? ⟨w.heap.size, 1, none⟩ = some (.int .i64 tn) ∧ w'.cell? ⟨w.heap.size, 2, none⟩ = some (.string ts)) (first | exact ⟨cell_later hQ1 q1, cell_later hQ1 q2, cell_later hQ1 q3, cell_later hQ1 q4, cell_later hQ1 r0, cell_later hQ1 r1, cell_later hQ1 r2⟩ | go_keep)
        (first | (go_at_fn fn; refine (KK.out _ (Below.refl _ _).drew).mono ?_; rintro e w' ⟨rfl, hb'⟩; have hQ1 : Below wr.heap.size wr w' := (Below.refl _ _).drew.trans hb'))
          all_goals
            go_wp2
            go_ret2
            exact ⟨⟨hi, by omega, by simp [hy, hlt2], I.out.1, I.out.2⟩, hnw.trans (hQ1.mono hnw.size)⟩
        · have hy' : (F hi == 0) = false := by simpa using hy
          go_wp2
          go_region_held3 (fun w' => w'.cell? ⟨b, o + hi * 4, none⟩ = some (.int .i64 xk) ∧ w'.cell? ⟨b, o + hi * 4 + 1, none⟩ = some (.int .i64 xn) ∧ w'.cell? ⟨b, o + hi * 4 + 2, none⟩ = some (.string xs) ∧ w'.cell? ⟨b, o + hi * 4 + 3, none⟩ = some (.int .i64 xm) ∧ w'.cell? ⟨w.heap.size, 0, none⟩ = some (.int .i64 tk) ∧ w'.cell? ⟨w.heap.size, 1, none⟩ = some (.int .i64 tn) ∧ w'.cell? ⟨w.heap.size, 2, none⟩ = some (.string ts)) (first | exact ⟨cell_later hQ1 q1, cell_later hQ1 q2, cell_later hQ1 q3, cell_later hQ1 q4, cell_later hQ1 r0, cell_later hQ1 r1, cell_later hQ1 r2⟩ | go_keep)
        (first | (go_at_fn fn; refine (KK.out _ (Below.refl _ _).drew).mono ?_; rintro e w' ⟨rfl, hb'⟩; have hQ1 : Below wr.heap.size wr w' := (Below.refl _ _).drew.trans hb'))
          all_goals
            go_wp2
            go_ret2
            exact ⟨⟨hi, by omega, by simp [hy, hlt2], I.out.1, I.out.2⟩, hnw.trans (hQ1.mono hnw.size)⟩
      · clear ha
        go_wp2
        go_quiet (fail)
        go_wp2
        go_ret2
        exact ⟨⟨hi, by omega, by simp [hlt2], I.out.1, I.out.2⟩, below_drewN hnw _⟩
end Go.Proofs.YtbfbgdinhiglaaaGreat.gr
/- group.find, and how groups are held against a row. -/
namespace Go.Proofs.YtbfbgdinhiglaaaGreat.gr
open Go.ChangeShapes Go.WideShapes Go.ChangeAt Go.RowKit
open vl pl bt
set_option linter.unusedVariables false
set_option linter.unusedSimpArgs false
attribute [local go_sem] Oper.semAt_some
set_option maxHeartbeats 1000000 in
theorem doCmp_any (x : GX) (g : Grp) (ra : Option Addr) (rc : Nat) (r : List Cel) (w : World) (h1 : vl.rowAt w x.r g.row) (h2 : vl.rowAt w ra r) (l1 : g.row.length ≤ 9223372036854775807) (l2 : r.length ≤ 9223372036854775807) :
    Calls Tryz.prog 82 #[grpV x g, .slice ra r.length rc] w fun e w' => e = .returned (.int .i64 (cmpRows g.row r)) ∧ Below w.heap.size w w' := by
  have KR : Hid (∀ w1, Below w.heap.size w w1 → Calls Tryz.prog 76 #[.slice x.r g.row.length x.rc, .slice ra r.length rc] w1 fun e w' => e = .returned (.int .i64 (cmpRows g.row r)) ∧ Below w1.heap.size w1 w') := fun w1 hb => rows_any _ _ _ _ _ _ w1 (vl.rowAt_below h1 hb) (vl.rowAt_below h2 hb) l1 l2
  clear h1 h2 l1 l2
  unfold grpV
  obtain ⟨y1, e1⟩ : ∃ z, x.r = z := ⟨_, rfl⟩
  obtain ⟨y2, e2⟩ : ∃ z, g.row.length = z := ⟨_, rfl⟩
  obtain ⟨y3, e3⟩ : ∃ z, x.rc = z := ⟨_, rfl⟩
  obtain ⟨y4, e4⟩ : ∃ z, g.n = z := ⟨_, rfl⟩
  obtain ⟨y5, e5⟩ : ∃ z, x.b = z := ⟨_, rfl⟩
  obtain ⟨y6, e6⟩ : ∃ z, g.bags.length = z := ⟨_, rfl⟩
  obtain ⟨y7, e7⟩ : ∃ z, x.bc = z := ⟨_, rfl⟩
  obtain ⟨y8, e8⟩ : ∃ z, cmpRows g.row r = z := ⟨_, rfl⟩
  obtain ⟨y9, e9⟩ : ∃ z, r.length = z := ⟨_, rfl⟩
  rw [e1, e2, e3, e8, e9] at KR
  rw [e1, e2, e3, e4, e5, e6, e7, e8, e9]
  clear e1 e2 e3 e4 e5 e6 e7 e8 e9
  go_enter Tryz.func82, Tryz.ntmps82
  go_wp2_with (go_at_call 76; refine (KR.out _ ((Below.refl _ _).alloc (Nat.le_refl _) _)).mono ?_; rintro e w1 ⟨rfl, hb1⟩)
  go_ret
  exact ⟨rfl, ((Below.refl _ _).alloc (Nat.le_refl _) _).trans (hb1.mono (by simp))⟩
set_option maxHeartbeats 1000000 in
theorem findCmp_any (k n : Int) (s : ByteArray) (m tk tn : Int) (ts : ByteArray) (w : World) :
    Calls Tryz.prog 158 #[.agg #[.int .i64 k, .int .i64 n, .string s, .int .i64 m], .agg #[.int .i64 tk, .int .i64 tn, .string ts]] w fun e w' => e = .returned (.int .i64 (cmpC ⟨k, n, s⟩ ⟨tk, tn, ts⟩)) ∧ Below w.heap.size w w' := by
  have KR : Hid (∀ w1, Calls Tryz.prog 124 #[.agg #[.int .i64 k, .int .i64 n, .string s], .agg #[.int .i64 tk, .int .i64 tn, .string ts]] w1 fun e w' => e = .returned (.int .i64 (cmpC ⟨k, n, s⟩ ⟨tk, tn, ts⟩)) ∧ Below w1.heap.size w1 w') := fun w1 => compare_any _ _ _ _ _ _ w1
  obtain ⟨y8, e8⟩ : ∃ z, cmpC ⟨k, n, s⟩ ⟨tk, tn, ts⟩ = z := ⟨_, rfl⟩
  rw [e8] at KR ⊢
  clear e8
  go_enter Tryz.func158, Tryz.ntmps158
  go_wp2_with (go_at_call 124; refine (KR.out _).mono ?_; rintro e w1 ⟨rfl, hb1⟩)
  go_ret
  exact ⟨rfl, (((Below.refl _ _).alloc (Nat.le_refl _) _).alloc (by simp) _).trans (hb1.mono (by simp; omega))⟩
set_option maxHeartbeats 1000000 in
theorem find_any (a : Option Addr) (cap : Nat) (l : List Tal) (c : Cel) (w : World) (hl : l.length < 4611686018427387904) (ha : bagAt w a l) (hm : ∀ i j, i ≤ j → j < l.length → cmpC (l.getD j default).1 c < 0 → cmpC (l.getD i default).1 c < 0) :
    Calls Tryz.prog 128 #[.slice a l.length cap, .agg #[.int .i64 c.k, .int .i64 c.n, .string c.s]] w fun e w' =>
      (∃ i : Nat, i ≤ l.length ∧ e = .returned (.tuple #[.int .i64 i, .bool (decide (i < l.length) && decide (cmpC (l.getD i default).1 c = 0))]) ∧ (∀ t, t < i → cmpC (l.getD t default).1 c < 0) ∧ (∀ t, i ≤ t → t < l.length → 0 ≤ cmpC (l.getD t default).1 c)) ∧ Below w.heap.size w w' := by
  have KS : Hid (∀ w1, Below w.heap.size w w1 → _) := fun w1 hb => searchT_any 158 (enters_of Tryz.func158 (by kernel_rfl) rfl) (fun i => cmpC (l.getD i default).1 c) a cap l c.k c.n c.s w1 hl (bagAt_below ha hb) (fun i w2 _ _ => findCmp_any _ _ _ _ _ _ _ w2) hm
  clear ha hm
  obtain ⟨ck, cn, cs⟩ := c
  dsimp only at KS ⊢
  obtain ⟨F, hF⟩ : ∃ F : Nat → Int, ∀ i, cmpC (l.getD i default).1 ⟨ck, cn, cs⟩ = F i := ⟨_, fun _ => rfl⟩
  simp only [hF] at KS ⊢
  obtain ⟨n, hn⟩ : ∃ z, l.length = z := ⟨_, rfl⟩
  rw [hn] at KS hl ⊢
  clear hF hn
  go_enter Tryz.func128, Tryz.ntmps128
  go_wp2_with (go_at_call 157; refine (KS.out _ ((Below.refl _ _).alloc (Nat.le_refl _) _)).mono ?_; rintro e w1 ⟨⟨i, hi, rfl, h1, h2⟩, hb1⟩)
  go_ret2
  exact ⟨⟨i, hi, rfl, h1, h2⟩, ((Below.refl _ _).alloc (Nat.le_refl _) _).trans (hb1.mono (by simp))⟩
end Go.Proofs.YtbfbgdinhiglaaaGreat.gr
