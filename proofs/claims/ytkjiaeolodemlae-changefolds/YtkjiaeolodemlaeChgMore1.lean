/- What the document's more does to a view of one's own: a number set, a row struck, a row put in between. -/
import Derived.Test.YtkjiaeolodemlaeChgMV
import Derived.Test.YtkjiaeolodemlaeChgPlace
import Derived.Test.YtkjiaeolodemlaeChgSum
namespace Go.Proofs.Ytkjiaeolodemlae.ch
open Go.ChangeShapes Go.WideShapes Go.ChangeAt Go.RowKit Go.Maps Go.WideMaps
open vl
set_option linter.unusedVariables false
set_option linter.unusedSimpArgs false

/-! ### as counts -/
theorem ins_mid {A B : KV} {k : List UInt8} {n : Int} (hA : ∀ p ∈ A, bytesBefore p.1 k = true) (hB : ∀ p ∈ B, bytesBefore k p.1 = true) : insK (k, n) (A ++ B) = A ++ (k, n) :: B := by
  induction A with
  | nil =>
    cases B with
    | nil => rfl
    | cons q r => rw [List.nil_append, insK, if_pos (hB q (List.mem_cons_self ..))]; rfl
  | cons q r ih =>
    have hq := hA q (List.mem_cons_self ..)
    have hn : bytesBefore k q.1 = false := by
      cases e : bytesBefore k q.1 with
      | false => rfl
      | true => have := before_trans hq e; rw [before_irrefl] at this; cases this
    rw [List.cons_append, insK, hn, if_neg (by decide), ih (fun p hp => hA p (List.mem_cons_of_mem _ hp))]
    rfl
theorem ne_low {A : KV} {k : List UInt8} (h : ∀ p ∈ A, bytesBefore p.1 k = true) : ∀ p ∈ A, p.1 ≠ k := fun p hp e => by have := h p hp; rw [e, before_irrefl] at this; cases this
theorem ne_up {A : KV} {k : List UInt8} (h : ∀ p ∈ A, bytesBefore k p.1 = true) : ∀ p ∈ A, p.1 ≠ k := fun p hp e => by have := h p hp; rw [e, before_irrefl] at this; cases this
theorem del_nonek {kv : KV} {k : List UInt8} (h : ∀ p ∈ kv, p.1 ≠ k) : delK kv k = kv := by
  unfold delK
  rw [List.filter_eq_self]
  intro p hp
  simpa using h p hp
theorem del_mid {A B : KV} {k : List UInt8} {m : Int} (hA : ∀ p ∈ A, bytesBefore p.1 k = true) (hB : ∀ p ∈ B, bytesBefore k p.1 = true) : delK (A ++ (k, m) :: B) k = A ++ B := by
  have h1 := del_nonek (ne_low hA)
  have h2 := del_nonek (ne_up hB)
  unfold delK at h1 h2 ⊢
  rw [List.filter_append, h1, List.filter_cons_of_neg (by simp), h2]
theorem get_mid {A B : KV} {k : List UInt8} {m : Int} (hA : ∀ p ∈ A, bytesBefore p.1 k = true) : getK (A ++ (k, m) :: B) k = m := by
  induction A with
  | nil => rw [List.nil_append, getK_cons, if_pos rfl]
  | cons q r ih => rw [List.cons_append, getK_cons, if_neg (ne_low hA q (List.mem_cons_self ..)), ih (fun p hp => hA p (List.mem_cons_of_mem _ hp))]
theorem put_mid {A B : KV} {k : List UInt8} {m n : Int} (hA : ∀ p ∈ A, bytesBefore p.1 k = true) (hB : ∀ p ∈ B, bytesBefore k p.1 = true) : putK (A ++ (k, m) :: B) k n = A ++ (k, n) :: B := by
  unfold putK; rw [del_mid hA hB, ins_mid hA hB]
theorem put_new {A B : KV} {k : List UInt8} {n : Int} (hA : ∀ p ∈ A, bytesBefore p.1 k = true) (hB : ∀ p ∈ B, bytesBefore k p.1 = true) : putK (A ++ B) k n = A ++ (k, n) :: B := by
  unfold putK
  rw [del_nonek (fun p hp => by
    rcases List.mem_append.1 hp with h | h
    · exact ne_low hA p h
    · exact ne_up hB p h), ins_mid hA hB]
theorem get_new {A B : KV} {k : List UInt8} (hA : ∀ p ∈ A, bytesBefore p.1 k = true) (hB : ∀ p ∈ B, bytesBefore k p.1 = true) : getK (A ++ B) k = 0 := getK_none (fun p hp => by
    rcases List.mem_append.1 hp with h | h
    · exact ne_low hA p h
    · exact ne_up hB p h)

def kvP (L : PL) : KV := kvOf (outOf L)
theorem kvP_app (L M : PL) : kvP (L ++ M) = kvP L ++ kvP M := by simp [kvP, outOf, kvOf]
theorem kvP_cons (p : Value × Cnt) (L : PL) : kvP (p :: L) = (encR p.2.r, p.2.n) :: kvP L := rfl
theorem kvP_len (L : PL) : (kvP L).length = L.length := by simp [kvP, kvOf_len, out_len]
theorem low_take {L : PL} {k : List UInt8} {i : Nat} (hi : i ≤ L.length) (h : lower (outOf L) k i) : ∀ p ∈ kvP (L.take i), bytesBefore p.1 k = true := by
  intro p hp
  obtain ⟨c, hc, rfl⟩ := List.mem_map.1 hp
  obtain ⟨q, hq, rfl⟩ := List.mem_map.1 hc
  obtain ⟨j, hj, rfl⟩ := List.getElem_of_mem hq
  rw [List.length_take] at hj
  have := h j (by omega)
  rw [out_at L j _ (List.getElem?_eq_getElem (by omega))] at this
  rw [List.getElem_take]
  exact this
theorem up_drop {L : PL} {k : List UInt8} {i : Nat} (h : upper (outOf L) k i) : ∀ p ∈ kvP (L.drop i), bytesBefore k p.1 = true := by
  intro p hp
  obtain ⟨c, hc, rfl⟩ := List.mem_map.1 hp
  obtain ⟨q, hq, rfl⟩ := List.mem_map.1 hc
  obtain ⟨j, hj, rfl⟩ := List.getElem_of_mem hq
  rw [List.length_drop] at hj
  have := h (i + j) (by omega) (by rw [out_len]; omega)
  rw [out_at L (i + j) _ (List.getElem?_eq_getElem (by omega))] at this
  rw [List.getElem_drop]
  exact this
theorem split_at (L : PL) (i : Nat) (hi : i < L.length) : L = L.take i ++ L[i] :: L.drop (i + 1) := by
  rw [List.getElem_cons_drop, List.take_append_drop]

/-! ### in memory -/
theorem MV_set {w : World} {base g cap n : Nat} {A B : PL} {p : Value × Cnt} (x : Int) (h : MV w base (.slice (some ⟨g, 0, none⟩) n cap) (A ++ p :: B)) (hn : n = (A ++ p :: B).length) :
    MV (w.setCell ⟨g, A.length * 2 + 1, none⟩ (.int .i64 x)) base (.slice (some ⟨g, 0, none⟩) n cap) (A ++ (p.1, ⟨p.2.r, x⟩) :: B) := by
  have hl : (A ++ (p.1, (⟨p.2.r, x⟩ : Cnt)) :: B).length = (A ++ p :: B).length := by simp
  have ho := h.own
  subst hn
  refine ⟨by have := h.low; simpa using this, ?_, ?_⟩
  · rw [hl]
    have := own_set ho (A.length * 2 + 1) (by simp; omega) (.int .i64 x)
    have e : (flatP (A ++ p :: B)).set (A.length * 2 + 1) (.int .i64 x) = flatP (A ++ (p.1, ⟨p.2.r, x⟩) :: B) := by
      rw [flatP_app, flatP_app, flatP_cons, flatP_cons, List.set_append_right _ _ (by rw [flatP_len]; omega), flatP_len, show A.length * 2 + 1 - A.length * 2 = 1 by omega]
      rfl
    rw [e] at this
    exact this
  · have hkeep : ∀ q ∈ A ++ p :: B, rowOne (w.setCell ⟨g, A.length * 2 + 1, none⟩ (.int .i64 x)) (.slice (some ⟨g, 0, none⟩) (A ++ p :: B).length cap) q := fun q hq => rowOne_keep (h.rows q hq) (fun b _ hb => Below.heap_setCell _ _ _ b (fun e => hb (by rw [e]; rfl))) (by simp) (fun b _ k => k)
    intro q hq
    rcases List.mem_append.1 hq with h1 | h1
    · exact hkeep q (List.mem_append.2 (.inl h1))
    · rcases List.mem_cons.1 h1 with h2 | h2
      · subst h2
        exact hkeep p (List.mem_append.2 (.inr (List.mem_cons_self ..)))
      · exact hkeep q (List.mem_append.2 (.inr (List.mem_cons_of_mem _ h2)))
/-- a row struck -/
theorem MV_cut {w : World} {base g cap n : Nat} {A B : PL} {p : Value × Cnt} (h : MV w base (.slice (some ⟨g, 0, none⟩) n cap) (A ++ p :: B)) (hn : n = (A ++ p :: B).length) (hl : n ≤ 1000000) (a2 : Addr) (c2 : Nat) (ha : 0 < B.length → a2 = ⟨g, (A.length + 1) * 2, none⟩) (ty : TypeId) :
    ∃ v' w', (Builtin.append_ #[35, 35] ty #[.slice (some ⟨g, 0, none⟩) A.length cap, .slice (some a2) B.length c2]).run Try.prog w = .ok v' w' ∧ MV w' base v' (A ++ B) ∧ Below base w w' := by
  obtain ⟨i0, hi, hz0, hz1, hz2⟩ := info_parts infoC
  have hlow := h.low
  have ho := h.own
  subst hn
  have hAl : A.length ≤ (A ++ p :: B).length := by simp
  have hf := own_front ho A.length hAl
  rw [flatP_take _ _ hAl, List.take_left] at hf
  have hcel : ∀ j u, (flatP B)[j]? = some u → w.cell? (a2.add j) = some u := by
    intro j u hu
    have hB : 0 < B.length := by
      rcases Nat.eq_zero_or_pos B.length with h | h
      · rw [List.length_eq_zero_iff.1 h] at hu; cases hu
      · exact h
    rw [ha hB, add_at]
    have hc := World.ownsRow.cells ho (g := g) rfl ((A.length + 1) * 2 + j) u (by
      have e : flatP (A ++ p :: B) = (flatP A ++ [p.1, .int .i64 p.2.n]) ++ flatP B := by rw [flatP_app, flatP_cons, List.append_assoc]; rfl
      rw [e, List.getElem?_append_right (by rw [List.length_append, flatP_len]; simp; omega)]
      rw [List.length_append, flatP_len, show (A.length + 1) * 2 + j - (A.length * 2 + [p.1, Value.int .i64 p.2.n].length) = j by simp; omega]
      exact hu)
    rw [addr_add, Nat.zero_add] at hc
    exact hc
  have hrows : ∀ q ∈ A ++ B, q ∈ A ++ p :: B := fun q hq => by
    rcases List.mem_append.1 hq with h1 | h1
    · exact List.mem_append.2 (.inl h1)
    · exact List.mem_append.2 (.inr (List.mem_cons_of_mem _ h1))
  obtain ⟨v', w', hr, h2, h3, _, h5⟩ := run_append_own_at (P := Try.prog) w base 35 ty 66 i0 (.agg #[.slice none 0 0, .int .i64 0]) 2 32 Try.underlying35 hi hz0 hz1 hz2 rfl (by decide) _ A.length (flatP A) hf a2 B.length c2 (flatP B) (by rw [flatP_len]) hcel
    (flatP_one (fun q hq => h.rows q (hrows q (List.mem_append.2 (.inr hq))))) (by unfold maxLen; simp at hl; omega) (by simp at hl; omega) hlow
  refine ⟨v', w', hr, ⟨Nat.le_trans hlow h3.size, by rw [List.length_append, flatP_app]; exact h2, ?_⟩, (Below.refl _ _).grown h3 hlow (fun b hb => (own_lt hf hb).1)⟩
  intro q hq
  refine rowOne_keep (h.rows q (hrows q hq)) (fun b hb hne => h3.block b hb (fun e => hne e.symm)) h3.size ?_
  intro b hb hne e
  rcases h5 with h5 | h5
  · rw [h5] at e
    exact hne e
  · rw [h5] at e
    have hbb : w.heap.size = b := by cases e; rfl
    omega

theorem run_copy2 {w : World} (ty : TypeId) (g o dLen dCap : Nat) (a : Addr) (sLen sCap : Nat) (cur : Array Value) (t : TypeId) (cs : List Value) (hg : w.heap[g]? = some (.cells cur t (0, 0))) (hn : cs.length = Nat.min sLen dLen * 2)
    (hsrc : ∀ j v, cs[j]? = some v → w.cell? (a.add j) = some v) (hfit : o + cs.length ≤ cur.size) (h1 : ∀ v ∈ cs, v.oneCell' = true) :
    (Builtin.copy_ #[35, 35] ty #[.slice (some ⟨g, o, none⟩) dLen dCap, .slice (some a) sLen sCap]).run Try.prog w = .ok (goInt (Nat.min sLen dLen)) (w.setRow g (cur.toList.take o ++ cs ++ cur.toList.drop (o + cs.length)).toArray) := by
  obtain ⟨i0, hi, hz0, hz1, hz2⟩ := info_parts infoC
  have hl := run_loadCells_list (P := Try.prog) w a cs hsrc
  have hst := run_storeCells_at Try.prog g o t cs 0 cur w hg (by simpa using hfit) h1
  simp [Builtin.copy_, run_underlying Try.underlying35, Builtin.lenOf, Builtin.firstCells, sizeOf, typeInfo, hi, hz1, ← hn, hl, hst]
theorem run_copy2_none {w : World} (ty : TypeId) (d : Option Addr) (dLen dCap : Nat) (a : Option Addr) (sLen sCap : Nat) (hn : Nat.min sLen dLen = 0) :
    (Builtin.copy_ #[35, 35] ty #[.slice d dLen dCap, .slice a sLen sCap]).run Try.prog w = .ok (goInt 0) w := by
  obtain ⟨i0, hi, hz0, hz1, hz2⟩ := info_parts infoC
  have hl : ∀ x, (loadCells x 0).run Try.prog w = .ok #[] w := fun x => run_loadCells_list (P := Try.prog) w x [] (fun j v h => by cases h)
  cases a <;> cases d <;> simp [Builtin.copy_, run_underlying Try.underlying35, Builtin.lenOf, Builtin.firstCells, sizeOf, typeInfo, hi, hz1, hn, hl, storeCells]

theorem copy_list (fA fB z S : List Value) (hz : z.length = 2) : ((fA ++ (fB ++ z) ++ S).take (fA.length + 2) ++ fB ++ (fA ++ (fB ++ z) ++ S).drop (fA.length + 2 + fB.length)) = (fA ++ (fB ++ z).take 2 ++ fB) ++ S := by
  have h1 : (fA ++ (fB ++ z) ++ S).take (fA.length + 2) = fA ++ (fB ++ z).take 2 := by
    rw [List.append_assoc, List.take_length_add_append, List.take_append_of_le_length (by rw [List.length_append]; omega)]
  have h2 : (fA ++ (fB ++ z) ++ S).drop (fA.length + 2 + fB.length) = S := by
    rw [show fA.length + 2 + fB.length = (fA ++ (fB ++ z)).length by rw [List.length_append, List.length_append]; omega]
    exact List.drop_left
  rw [h1, h2]
/-- room for a row in between: behind an append of nothing much and a copy -/
theorem MV_room {w w2 : World} {base g cap n : Nat} {v : Value} {A B : PL} {z : List Value} (h : MV w base v (A ++ B)) (hn : (A ++ B).length = n) (o : Obj) (hz : z.length = 2)
    (hown2 : w2.ownsRow base 66 2 (.slice (some ⟨g, 0, none⟩) (n + 1) cap) (n + 1) (flatP (A ++ B) ++ z)) (hg2 : (w.alloc o).grownBy w2 v.ownBlock) (hat : v.ownBlock = some g ∨ g = w.heap.size + 1)
    (d2 s2 : Option Addr) (dc sc : Nat) (hd : 0 < B.length → d2 = some ⟨g, (A.length + 1) * 2, none⟩) (hs : 0 < B.length → s2 = some ⟨g, A.length * 2, none⟩) (ty : TypeId) :
    ∃ w3, (Builtin.copy_ #[35, 35] ty #[.slice d2 B.length dc, .slice s2 (B.length + 1) sc]).run Try.prog w2 = .ok (goInt B.length) w3 ∧
      (∃ y, y.length = 2 ∧ w3.ownsRow base 66 2 (.slice (some ⟨g, 0, none⟩) (n + 1) cap) (n + 1) (flatP A ++ y ++ flatP B)) ∧
      Below base w w3 ∧ (∀ p ∈ A ++ B, rowOne w3 (.slice (some ⟨g, 0, none⟩) (n + 1) cap) p) := by
  have hlow := h.low
  have hs2 : w.heap.size + 1 ≤ w2.heap.size := by have := hg2.size; simpa using this
  have hglt := own_lt hown2 (g := g) rfl
  have hnl : A.length + B.length = n := by rw [← hn, List.length_append]
  have hb2 : Below base w w2 := ((Below.refl _ _).alloc hlow o).grown hg2 (by simp; omega) (fun b hb => (own_lt h.own hb).1)
  have hblk2 : ∀ b, b < w.heap.size → v.ownBlock ≠ some b → w2.heap[b]? = w.heap[b]? := fun b hb ho => by
    rw [hg2.block b (by simp; omega) (fun e => ho e.symm)]
    exact Below.heap_alloc _ _ b hb
  have hvg : ∀ b, b < w.heap.size → v.ownBlock ≠ some b → (Value.slice (some ⟨g, 0, none⟩) (n + 1) cap).ownBlock ≠ some b := fun b hb hne e => by
    have hbg : g = b := by cases e; rfl
    rcases hat with h1 | h1
    · exact hne (by rw [← hbg]; exact h1)
    · omega
  have hmin : Nat.min (B.length + 1) B.length = B.length := Nat.min_eq_right (by omega)
  have hyl : ((flatP B ++ z).take 2).length = 2 := by rw [List.length_take, List.length_append, hz]; omega
  have hlA := flatP_len A
  have hlB := flatP_len B
  by_cases hB : 0 < B.length
  · have ed := hd hB
    have es := hs hB
    subst ed es
    rcases hown2.2 with ⟨hv, _⟩ | ⟨g', cap', cur, hv, h1, hg, h2, h3, h4, h5⟩
    · cases hv
    · injection hv with e1 e2 e3
      injection e1 with e1
      injection e1 with e1 _ _
      subst e1 e3
      have hcs : ∀ j u, (flatP B)[j]? = some u → w2.cell? ((⟨g, A.length * 2, none⟩ : Addr).add j) = some u := fun j u hu => by
        rw [add_at]
        have hc := World.ownsRow.cells hown2 (g := g) rfl (A.length * 2 + j) u (by
          have hj : j < (flatP B).length := by
            rcases Nat.lt_or_ge j (flatP B).length with h | h
            · exact h
            · rw [List.getElem?_eq_none h] at hu; cases hu
          rw [flatP_app, List.append_assoc, List.getElem?_append_right (by rw [flatP_len]; omega), flatP_len, show A.length * 2 + j - A.length * 2 = j by omega, List.getElem?_append_left hj]
          exact hu)
        rw [addr_add, Nat.zero_add] at hc
        exact hc
      have hone := flatP_one (L := B) (fun p hp => h.rows p (List.mem_append.2 (.inr hp)))
      have hfit : (A.length + 1) * 2 + (flatP B).length ≤ cur.size := by
        have : (n + 1) * 2 ≤ cap * 2 := Nat.mul_le_mul_right _ h2
        omega
      have hrun := run_copy2 ty g ((A.length + 1) * 2) B.length dc ⟨g, A.length * 2, none⟩ (B.length + 1) sc cur 66 (flatP B) hg (by rw [hmin, flatP_len]) hcs hfit hone
      rw [hmin] at hrun
      obtain ⟨S, hS⟩ : ∃ S, cur.toList = flatP A ++ (flatP B ++ z) ++ S := ⟨cur.toList.drop ((n + 1) * 2), by
        have e := List.take_append_drop ((n + 1) * 2) cur.toList
        rw [h5, flatP_app, List.append_assoc (flatP A) (flatP B) z] at e
        exact e.symm⟩
      have hnew : cur.toList.take ((A.length + 1) * 2) ++ flatP B ++ cur.toList.drop ((A.length + 1) * 2 + (flatP B).length) = (flatP A ++ (flatP B ++ z).take 2 ++ flatP B) ++ S := by
        have := copy_list (flatP A) (flatP B) z S hz
        rw [hS, show (A.length + 1) * 2 = (flatP A).length + 2 by omega]
        exact this
      rw [hnew] at hrun
      have hsz : cur.size = ((flatP A ++ (flatP B ++ z).take 2 ++ flatP B) ++ S).length := by
        rw [← Array.length_toList, hS]
        simp only [List.length_append, hyl, hz]
        omega
      refine ⟨_, hrun, ⟨(flatP B ++ z).take 2, hyl, ?_, .inr ⟨g, cap, _, rfl, h1, setRow_heap w2 g cur _ _ _ hg, h2, h3, ?_, ?_⟩⟩, ?_, ?_⟩
      · simp only [List.length_append, hyl]; omega
      · rw [List.size_toArray, ← hsz]; exact h4
      · rw [show (n + 1) * 2 = (flatP A ++ (flatP B ++ z).take 2 ++ flatP B).length by simp only [List.length_append, hyl]; omega]
        exact List.take_left
      · exact hb2.trans ⟨rfl, rfl, rfl, by simp [World.setRow], fun k hk => setRow_other w2 g k _ (by omega)⟩
      · intro p hp
        have hss : (w2.setRow g ((flatP A ++ (flatP B ++ z).take 2 ++ flatP B) ++ S).toArray).heap.size = w2.heap.size := by simp [World.setRow]
        refine rowOne_keep (h.rows p hp) (fun b hb hne => ?_) (by omega) hvg
        rw [setRow_other w2 g b _ (fun e => hvg b hb hne (by rw [e]; rfl))]
        exact hblk2 b hb hne
  · have hB0 : B = [] := List.length_eq_zero_iff.1 (by omega)
    subst hB0
    have hrun := run_copy2_none (w := w2) ty d2 0 dc s2 1 sc rfl
    refine ⟨w2, hrun, ⟨z, hz, by rw [List.append_nil] at hown2; rw [show flatP ([] : PL) = [] from rfl, List.append_nil]; exact hown2⟩, hb2, ?_⟩
    intro p hp
    exact rowOne_keep (h.rows p hp) hblk2 (by omega) hvg
end Go.Proofs.Ytkjiaeolodemlae.ch
