/- Several texts in one: BufRoom, BufCopy, BufInto. -/
import Derived.Test.YtnfknkihiapgiaaBufUni
import Derived.Deep.RegionLaw
import Derived.Deep.AppendLies
import Derived.Test.YtnfknkihiapgiaaBufRef1
import Derived.Deep.RegionHeld3
/- Room for an entry in between: an append and a copy; an entry is written there. -/
namespace Go.Proofs.Ytnfknkihiapgiaa.bf
open Go.ChangeShapes Go.WideShapes Go.ChangeAt Go.RowKit
open vl
set_option linter.unusedVariables false
set_option linter.unusedSimpArgs false
theorem run_copyS {w : World} (t e : TypeId) (i0 : TypeInfo) (s : Nat) (hu : Try.prog.underlying t = some (.slice e)) (hi : Try.prog.info? e = some i0) (hz1 : i0.size = s) (ty : TypeId) (g o dLen dCap : Nat) (a : Addr) (sLen sCap : Nat) (cur : Array Value) (te : TypeId) (cs : List Value) (hg : w.heap[g]? = some (.cells cur te (0, 0))) (hn : cs.length = Nat.min sLen dLen * s)
    (hsrc : ∀ j v, cs[j]? = some v → w.cell? (a.add j) = some v) (hfit : o + cs.length ≤ cur.size) (h1 : ∀ v ∈ cs, v.oneCell' = true) :
    (Builtin.copy_ #[t, t] ty #[.slice (some ⟨g, o, none⟩) dLen dCap, .slice (some a) sLen sCap]).run Try.prog w = .ok (goInt (Nat.min sLen dLen)) (w.setRow g (cur.toList.take o ++ cs ++ cur.toList.drop (o + cs.length)).toArray) := by
  have hl := run_loadCells_list (P := Try.prog) w a cs hsrc
  have hst := run_storeCells_at Try.prog g o te cs 0 cur w hg (by simpa using hfit) h1
  simp [Builtin.copy_, run_underlying hu, Builtin.lenOf, Builtin.firstCells, sizeOf, typeInfo, hi, hz1, ← hn, hl, hst]
theorem run_copyS_none {w : World} (t e : TypeId) (i0 : TypeInfo) (s : Nat) (hu : Try.prog.underlying t = some (.slice e)) (hi : Try.prog.info? e = some i0) (hz1 : i0.size = s) (ty : TypeId) (d : Option Addr) (dLen dCap : Nat) (a : Option Addr) (sLen sCap : Nat) (hn : Nat.min sLen dLen = 0) :
    (Builtin.copy_ #[t, t] ty #[.slice d dLen dCap, .slice a sLen sCap]).run Try.prog w = .ok (goInt 0) w := by
  have hl : ∀ x, (loadCells x 0).run Try.prog w = .ok #[] w := fun x => run_loadCells_list (P := Try.prog) w x [] (fun j v h => by cases h)
  cases a <;> cases d <;> simp [Builtin.copy_, run_underlying hu, Builtin.lenOf, Builtin.firstCells, sizeOf, typeInfo, hi, hz1, hn, hl, storeCells]
theorem copy_listS (s : Nat) (fA fB z S : List Value) (hz : z.length = s) : ((fA ++ (fB ++ z) ++ S).take (fA.length + s) ++ fB ++ (fA ++ (fB ++ z) ++ S).drop (fA.length + s + fB.length)) = (fA ++ (fB ++ z).take s ++ fB) ++ S := by
  have h1 : (fA ++ (fB ++ z) ++ S).take (fA.length + s) = fA ++ (fB ++ z).take s := by
    rw [List.append_assoc, List.take_length_add_append, List.take_append_of_le_length (by rw [List.length_append]; omega)]
  have h2 : (fA ++ (fB ++ z) ++ S).drop (fA.length + s + fB.length) = S := by
    rw [show fA.length + s + fB.length = (fA ++ (fB ++ z)).length by rw [List.length_append, List.length_append]; omega]
    exact List.drop_left
  rw [h1, h2]
/-- room for an element in between, behind an append of one -/
theorem own_room {w2 : World} {base g cap n na nb s : Nat} {fA fB z : List Value} (t e : TypeId) (i0 : TypeInfo) (hu : Try.prog.underlying t = some (.slice e)) (hi : Try.prog.info? e = some i0) (hz1 : i0.size = s)
    (hown2 : w2.ownsRow base e s (.slice (some ⟨g, 0, none⟩) (n + 1) cap) (n + 1) (fA ++ fB ++ z)) (hA : fA.length = na * s) (hB : fB.length = nb * s) (hz : z.length = s) (hn : na + nb = n) (hone : ∀ u ∈ fB, u.oneCell' = true)
    (d2 s2 : Option Addr) (dc sc : Nat) (hd : 0 < nb → d2 = some ⟨g, (na + 1) * s, none⟩) (hs : 0 < nb → s2 = some ⟨g, na * s, none⟩) (ty : TypeId) :
    ∃ w3, (Builtin.copy_ #[t, t] ty #[.slice d2 nb dc, .slice s2 (nb + 1) sc]).run Try.prog w2 = .ok (goInt nb) w3 ∧
      (∃ y, y.length = s ∧ w3.ownsRow base e s (.slice (some ⟨g, 0, none⟩) (n + 1) cap) (n + 1) (fA ++ y ++ fB)) ∧ w3.heap.size = w2.heap.size ∧ (∀ b, b ≠ g → w3.heap[b]? = w2.heap[b]?) ∧ Below g w2 w3 := by
  have hmin : Nat.min (nb + 1) nb = nb := Nat.min_eq_right (by omega)
  have hyl : ((fB ++ z).take s).length = s := by rw [List.length_take, List.length_append, hz]; omega
  by_cases hnb : 0 < nb
  · have ed := hd hnb
    have es := hs hnb
    subst ed es
    rcases hown2.2 with ⟨hv, _⟩ | ⟨g', cap', cur, hv, h1, hg, h2, h3, h4, h5⟩
    · cases hv
    · injection hv with e1 e2 e3
      injection e1 with e1
      injection e1 with e1 _ _
      subst e1 e3
      have hcs : ∀ j u, fB[j]? = some u → w2.cell? ((⟨g, na * s, none⟩ : Addr).add j) = some u := fun j u hu => by
        rw [add_at]
        have hc := World.ownsRow.cells hown2 (g := g) rfl (na * s + j) u (by
          have hj : j < fB.length := by
            rcases Nat.lt_or_ge j fB.length with h | h
            · exact h
            · rw [List.getElem?_eq_none h] at hu; cases hu
          rw [List.append_assoc, List.getElem?_append_right (by omega), hA, show na * s + j - na * s = j by omega, List.getElem?_append_left hj]
          exact hu)
        rw [add_at, Nat.zero_add] at hc
        exact hc
      have hfit : (na + 1) * s + fB.length ≤ cur.size := by
        have h6 : (n + 1) * s ≤ cap * s := Nat.mul_le_mul_right _ h2
        have h7 : (n + 1) * s = (na + 1) * s + nb * s := by rw [← hn, show na + nb + 1 = (na + 1) + nb by omega, Nat.add_mul]
        omega
      have hrun := run_copyS t e i0 s hu hi hz1 ty g ((na + 1) * s) nb dc ⟨g, na * s, none⟩ (nb + 1) sc cur e fB hg (by rw [hmin, hB]) hcs hfit hone
      rw [hmin] at hrun
      obtain ⟨S, hS⟩ : ∃ S, cur.toList = fA ++ (fB ++ z) ++ S := ⟨cur.toList.drop ((n + 1) * s), by
        have e := List.take_append_drop ((n + 1) * s) cur.toList
        rw [h5, List.append_assoc fA fB z] at e
        exact e.symm⟩
      have h8 : (na + 1) * s = fA.length + s := by rw [Nat.add_mul, Nat.one_mul, hA]
      have hnew : cur.toList.take ((na + 1) * s) ++ fB ++ cur.toList.drop ((na + 1) * s + fB.length) = (fA ++ (fB ++ z).take s ++ fB) ++ S := by
        rw [hS, h8]
        exact copy_listS s fA fB z S hz
      rw [hnew] at hrun
      have hlen : (fA ++ (fB ++ z).take s ++ fB).length = (n + 1) * s := by
        simp only [List.length_append, hyl, hA, hB]
        have h7 : (n + 1) * s = (na + 1) * s + nb * s := by rw [← hn, show na + nb + 1 = (na + 1) + nb by omega, Nat.add_mul]
        rw [h7, Nat.add_mul, Nat.one_mul]
      have hsz : cur.size = ((fA ++ (fB ++ z).take s ++ fB) ++ S).length := by
        have h9 : cur.size = cur.toList.length := Array.length_toList.symm
        rw [h9, hS]
        simp only [List.length_append, hyl, hz]
        omega
      refine ⟨_, hrun, ⟨(fB ++ z).take s, hyl, hlen, .inr ⟨g, cap, _, rfl, h1, setRow_heap w2 g cur _ _ _ hg, h2, h3, ?_, ?_⟩⟩, by simp [World.setRow], fun b hb => setRow_other w2 g b _ hb, ⟨rfl, rfl, rfl, by simp [World.setRow], fun k hk => setRow_other w2 g k _ (by omega)⟩⟩
      · rw [List.size_toArray, ← hsz]; exact h4
      · rw [← hlen]
        exact List.take_left
  · have hB0 : fB = [] := List.length_eq_zero_iff.1 (by rw [hB, show nb = 0 by omega, Nat.zero_mul])
    have hb0 : nb = 0 := by omega
    subst hB0 hb0
    have hrun := run_copyS_none (w := w2) t e i0 s hu hi hz1 ty d2 0 dc s2 1 sc rfl
    refine ⟨w2, hrun, ⟨z, hz, by rw [List.append_nil] at hown2 ⊢; exact hown2⟩, rfl, fun b _ => rfl, Below.refl _ _⟩
theorem own_frozen {w : World} {base : Nat} {e : TypeId} {size n cap g : Nat} {xs : List Value} (h : w.ownsRow base e size (.slice (some ⟨g, 0, none⟩) n cap) n xs) (j : Nat) : w.frozen? ⟨g, j, none⟩ = false := by
  rcases h.2 with ⟨hv, _⟩ | ⟨g', cap', cur, hv, _, hg, _⟩
  · cases hv
  · cases hv
    simp [World.frozen?, hg]
theorem own_cap {w : World} {base : Nat} {e : TypeId} {size : Nat} {ad : Option Addr} {n m cap : Nat} {xs : List Value} (h : w.ownsRow base e size (.slice ad n cap) m xs) : n ≤ cap := by
  rcases h.2 with ⟨hv, h0⟩ | ⟨g, c, cur, hv, _, _, hc, _⟩
  · cases hv; exact Nat.le_refl _
  · cases hv; exact hc
theorem step_cpy {ops : Array Oper} {o : Oper} {a : Act} {w w' : World} {K : Act → World → Prop} {Q : Exit → Act → World → Prop} {E : Prop} (hgd : o.guard = none) (s x : Operand)
    (hop : o.op = .call { callee := .builtin .copy, args := #[s, x], argTypes := #[22, 22] }) (vs vx v' : Value) (hs : a.eval s = vs) (hx : a.eval x = vx)
    (hrun : (Builtin.copy_ #[22, 22] o.type #[vs, vx]).run Try.prog w = .ok v' w') (h : K (a.put o.dst v') w') :
    if Region.wanted o (yielded ops a.tmps) = true then Oper.wp Try.prog o a w K Q else E := by
  rw [if_pos (by simp [Region.wanted, hgd])]
  unfold Oper.wp
  simp [execOp, hop, resolve, invoke, builtin, hs, hx, hrun, Result.andThen]
  exact h
theorem sizeEn (w : World) : (sizeOf 28).run Try.prog w = .ok 5 w := by kernel_rfl
theorem elemEn : Try.prog.elem 22 = 28 := by kernel_rfl
theorem undEn : Try.prog.underlying 22 = some (.slice (Try.prog.elem 22)) := by rw [elemEn]; exact Try.underlying22
theorem back_en (g n cap k : Nat) (hk : k ≤ n) (hn : n ≤ cap) : ∃ a2 : Addr, (∀ w, (Instr.sliceAt 22 (.slice (some ⟨g, 0, none⟩) n cap) (some (.int .i64 k)) none none).run Try.prog w = .ok (.slice (some a2) (n - k) (cap - k)) w) ∧ (k < n → a2 = ⟨g, k * 5, none⟩) := by
  refine ⟨if cap = k then ⟨g, 0, none⟩ else ⟨g, k * 5, none⟩, ?_, fun h => by rw [if_neg (by omega)]⟩
  intro w
  rw [run_sliceAt_slice (t := 22) (h := undEn), run_slice_l (t := 22) (ht := undEn) (h0 := by omega) (h1 := by omega), elemEn, sizeEn]
  simp [Result.andThen, sliced]
  split
  · rfl
  · simp [Addr.add]
    omega
theorem entCells_app (a b : List EM) : entCells (a ++ b) = entCells a ++ entCells b := by unfold entCells; rw [List.flatMap_append]
theorem entCells_one (l : List EM) : ∀ u ∈ entCells l, u.oneCell' = true := by
  intro u hu
  unfold entCells at hu
  obtain ⟨e, _, h⟩ := List.mem_flatMap.1 hu
  obtain ⟨k, t, s, ⟨a, b, c⟩, m⟩ := e
  simp [hdV] at h
  rcases h with rfl | rfl | rfl | rfl | rfl <;> rfl
theorem room_set5 {A B y : List Value} {i : Nat} (hA : A.length = i * 5) (hy : y.length = 5) (a b c d e : Value) : (((((A ++ y ++ B).set (i * 5) a).set (i * 5 + 1) b).set (i * 5 + 2) c).set (i * 5 + 3) d).set (i * 5 + 4) e = A ++ ([a, b, c, d, e] ++ B) := by
  match y, hy with
  | [y0, y1, y2, y3, y4], _ =>
    rw [List.append_assoc]
    have st : ∀ (j : Nat) (u : Value) (L : List Value), (A ++ L).set (i * 5 + j) u = A ++ L.set j u := fun j u L => by
      rw [List.set_append_right _ _ (by omega), hA, show i * 5 + j - i * 5 = j by omega]
    have h0 := st 0 a
    rw [Nat.add_zero] at h0
    rw [h0, st 1, st 2, st 3, st 4]
    rfl
theorem room_at5 {A B y : List Value} {i j : Nat} {u : Value} (hA : A.length = i) (hu : y[j]? = some u) : (A ++ y ++ B)[i + j]? = some u := by
  have hj : j < y.length := by
    rcases Nat.lt_or_ge j y.length with h | h
    · exact h
    · rw [List.getElem?_eq_none h] at hu; cases hu
  rw [List.append_assoc, List.getElem?_append_right (by omega), show i + j - A.length = j by omega, List.getElem?_append_left hj]
  exact hu
/-! ### entries at their places -/
theorem has_at {l : List Ent} {y : Ent} {m : Nat} (h : m < l.length) (hs : sameP l[m] y) : hasB l (plOf y) = true := by
  unfold hasB
  exact List.any_eq_true.2 ⟨l[m], List.getElem_mem h, by simpa using plOf_same.2 hs⟩
/-- k entries are ahead of y, the others behind it -/
structure Cut (l : List Ent) (y : Ent) (lo hi : Nat) : Prop where
  le : lo ≤ hi
  top : hi ≤ l.length
  fst : ∀ i (h : i < l.length), i < lo → ltP l[i] y
  snd : ∀ i (h : i < l.length), hi ≤ i → ltP y l[i]
theorem Cut.start (l : List Ent) (y : Ent) : Cut l y 0 l.length := ⟨Nat.zero_le _, Nat.le_refl _, fun i _ h => absurd h (Nat.not_lt_zero i), fun i h h2 => absurd h (by omega)⟩
theorem Cut.up {l : List Ent} {y : Ent} {lo hi m : Nat} (h : Cut l y lo hi) (hr : Rise l) (hm : m < hi) (hl : m < l.length) (hlo : lo ≤ m) (hlt : ltP l[m] y) : Cut l y (m + 1) hi :=
  ⟨by omega, h.top, fun i hi' h2 => by
    rcases Nat.lt_succ_iff_lt_or_eq.1 h2 with h3 | h3
    · exact ltP_trans (List.pairwise_iff_getElem.1 hr i m hi' hl h3) hlt
    · subst h3; exact hlt, h.snd⟩
theorem Cut.down {l : List Ent} {y : Ent} {lo hi m : Nat} (h : Cut l y lo hi) (hr : Rise l) (hm : m < hi) (hl : m < l.length) (hlo : lo ≤ m) (hlt : ltP y l[m]) : Cut l y lo m :=
  ⟨hlo, by omega, h.fst, fun i hi' h2 => by
    rcases Nat.lt_or_eq_of_le h2 with h3 | h3
    · exact ltP_trans hlt (List.pairwise_iff_getElem.1 hr m i hl hi' h3)
    · subst h3; exact hlt⟩
theorem Cut.none {l : List Ent} {y : Ent} {k : Nat} (h : Cut l y k k) : hasB l (plOf y) = false := by
  unfold hasB
  refine List.any_eq_false.2 fun x hx => ?_
  obtain ⟨i, hi, rfl⟩ := List.getElem_of_mem hx
  have : ¬ plOf l[i] = plOf y := fun e => by
    have hs := plOf_same.1 e
    by_cases h1 : i < k
    · exact not_both (h.fst i hi h1) hs
    · exact not_both (h.snd i hi (by omega)) (sameP_symm hs)
  simpa using this
theorem Cut.rise {l : List Ent} {y : Ent} {k : Nat} (h : Cut l y k k) (hr : Rise l) : Rise (l.take k ++ y :: l.drop k) := by
  refine List.pairwise_append.2 ⟨hr.sublist (List.take_sublist _ _), List.pairwise_cons.2 ⟨fun z hz => ?_, hr.sublist (List.drop_sublist _ _)⟩, fun a ha b hb => ?_⟩
  · obtain ⟨i, hi, rfl⟩ := List.getElem_of_mem hz
    rw [List.getElem_drop]
    exact h.snd _ _ (by omega)
  · obtain ⟨i, hi, rfl⟩ := List.getElem_of_mem ha
    rw [List.getElem_take]
    have hik : i < k := by rw [List.length_take] at hi; omega
    have hil : i < l.length := by rw [List.length_take] at hi; omega
    rcases List.mem_cons.1 hb with rfl | hb
    · exact h.fst i hil hik
    · obtain ⟨j, hj, rfl⟩ := List.getElem_of_mem hb
      rw [List.getElem_drop]
      exact ltP_trans (h.fst i hil hik) (h.snd _ _ (by omega))
theorem Cut.perm {l : List Ent} {y : Ent} (k : Nat) : (l.take k ++ y :: l.drop k).Perm (y :: l) := by
  have h := List.perm_middle (a := y) (l₁ := l.take k) (l₂ := l.drop k)
  rw [List.take_append_drop] at h
  exact h
end Go.Proofs.Ytnfknkihiapgiaa.bf

/- The document's Copy: a row of its own. -/
namespace Go.Proofs.Ytnfknkihiapgiaa.bf
open Go.ChangeShapes Go.WideShapes Go.ChangeAt Go.RowKit
open vl
set_option linter.unusedVariables false
set_option linter.unusedSimpArgs false
set_option maxHeartbeats 1000000 in
theorem rcopy_any (a : Option Addr) (cap : Nat) (r : List Cel) (w : World) (hr : vl.rowAt w a r) (hl : r.length ≤ 2000000) :
    Calls Try.prog 71 #[.slice a r.length cap] w fun e w' => (∃ ad c, e = .returned (.slice ad r.length c) ∧ ownV w' w.heap.size (.slice ad r.length c) r) ∧ Below w.heap.size w w' := by
  obtain ⟨i0, hi, hz0, hz1, hz2⟩ := info_parts Try.infoV
  have HI : Hid (Try.prog.info? 96 = some i0 ∧ i0.zero = some (.agg #[.int .i64 0, .int .i64 0, .string ⟨#[]⟩]) ∧ i0.size = 3 ∧ i0.bytes = 32) := ⟨hi, hz0, hz1, hz2⟩
  clear hi hz0 hz1 hz2
  have HOW : Hid ((w.alloc (.cells #[] 96)).ownsRow w.heap.size 96 3 (.slice (some ⟨w.heap.size, 0, none⟩) 0 0) 0 []) := World.ownsRow_made w #[] 0 (Nat.le_refl _) (Nat.zero_le _) rfl
  have hb0 : Below w.heap.size w (w.alloc (.cells #[] 96)) := (Below.refl _ _).alloc (Nat.le_refl _) _
  obtain ⟨n, hn⟩ : ∃ n, r.length = n := ⟨_, rfl⟩
  have HN : Hid (r.length = n) := hn
  cases a with
  | none =>
    have h0 : r = [] := by
      cases r with
      | nil => rfl
      | cons c r =>
        obtain ⟨_, _, e, _⟩ := hr 0 (by simp)
        cases e
    subst h0
    simp only [List.length_nil]
    clear hr hl hn HN
    go_enter Try.func71, Try.ntmps71
    go_wp2_with (at_builtin; refine wpList_append_none rfl (.tmp 3) (.tmp 4) 26 rfl w.heap.size 96 i0 3 cap Try.underlying26 HI.out.1 _ _ _ rfl HOW.out rfl ?_)
    go_ret
    exact ⟨⟨_, _, rfl, HOW.out⟩, hb0⟩
  | some x =>
    have hcel : ∀ j u, (celCells r)[j]? = some u → (w.alloc (.cells #[] 96)).cell? (x.add j) = some u := by
      intro j u hu
      have hlen : 0 < r.length := by
        rcases Nat.eq_zero_or_pos r.length with h | h
        · rw [List.length_eq_zero_iff.1 h] at hu; cases hu
        · exact h
      obtain ⟨b, o, e, _⟩ := hr 0 hlen
      cases e
      exact cell_later ((Below.refl _ _).alloc (Nat.le_refl _) _) (rowAt_cells hr j u hu)
    have HCE : Hid (∀ j u, (celCells r)[j]? = some u → (w.alloc (.cells #[] 96)).cell? (x.add j) = some u) := hcel
    rw [hn] at hl ⊢
    clear hcel hr hn
    go_enter Try.func71, Try.ntmps71
    go_wp2_with (at_builtin; refine wpList_append_own _ rfl (.tmp 3) (.tmp 4) 26 rfl w.heap.size 96 i0 (.agg #[.int .i64 0, .int .i64 0, .string ⟨#[]⟩]) 3 32 Try.underlying26 HI.out.1 HI.out.2.1 HI.out.2.2.1 HI.out.2.2.2 rfl (by decide) _ _ _ rfl HOW.out x n cap (celCells r) rfl (by rw [celCells_len, HN.out]) HCE.out (celCells_one r) (by unfold maxLen; omega) (by omega) (by simp) ?_; intro v2 w3 hown3 hgrow3 hnil3)
    rw [Nat.zero_add, List.nil_append] at hown3
    obtain ⟨ad, c2, hv⟩ : ∃ ad c2, v2 = .slice ad n c2 := by
      rcases hown3.2 with ⟨rfl, h0⟩ | ⟨g, cap', cur, rfl, _⟩
      · exact ⟨none, 0, by rw [h0]⟩
      · exact ⟨_, _, rfl⟩
    subst hv
    go_ret
    exact ⟨⟨ad, c2, rfl, by show w3.ownsRow _ _ _ _ r.length _; rw [HN.out]; exact hown3⟩, hb0.grown hgrow3 (by simp) (fun b hb => by cases hb; exact Nat.le_refl _)⟩
end Go.Proofs.Ytnfknkihiapgiaa.bf

/- The document's into: an entry at its place among those that rise. -/
namespace Go.Proofs.Ytnfknkihiapgiaa.bf
open Go.ChangeShapes Go.WideShapes Go.ChangeAt Go.RowKit
open vl
set_option linter.unusedVariables false
set_option linter.unusedSimpArgs false
attribute [local go_sem] Oper.semAt_some
theorem wrap_is (x : Int) : IntKind.i64.wrap x = (x + 9223372036854775808) % 18446744073709551616 - 9223372036854775808 := by
  simp only [IntKind.wrap, IntKind.signed, IntKind.bits]
  simp
  split <;> omega

theorem rows_ins {R : EM → Ent → Prop} {es : List EM} {l : List Ent} {e : EM} {y : Ent} {k : Nat} (hk : k ≤ l.length) (hl : es.length = l.length) (h : ∀ i, i < l.length → R (es.getD i default) (l.getD i default)) (he : R e y) :
    ∀ i, i < (l.take k ++ y :: l.drop k).length → R ((es.take k ++ e :: es.drop k).getD i default) ((l.take k ++ y :: l.drop k).getD i default) := fun i hi => by
  have h1 : (l.take k).length = k := by rw [List.length_take]; omega
  have h2 : (es.take k).length = k := by rw [List.length_take]; omega
  rw [List.length_append, List.length_cons, List.length_drop, h1] at hi
  by_cases c1 : i < k
  · rw [getD_app_left (by omega), getD_app_left (by omega)]
    have e1 : (es.take k).getD i default = es.getD i default := by simp [List.getD_eq_getElem?_getD, List.getElem?_take, c1]
    have e2 : (l.take k).getD i default = l.getD i default := by simp [List.getD_eq_getElem?_getD, List.getElem?_take, c1]
    rw [e1, e2]
    exact h i (by omega)
  · rw [getD_app_right (by omega), getD_app_right (by omega), h1, h2]
    by_cases c2 : i = k
    · subst c2
      rw [Nat.sub_self]
      exact he
    · obtain ⟨j, hj⟩ : ∃ j, i - k = j + 1 := ⟨i - k - 1, by omega⟩
      rw [hj, List.getD_cons_succ, List.getD_cons_succ]
      have e1 : (es.drop k).getD j default = es.getD (i - 1) default := by
        rw [List.getD_eq_getElem?_getD, List.getElem?_drop, List.getD_eq_getElem?_getD, show k + j = i - 1 by omega]
      have e2 : (l.drop k).getD j default = l.getD (i - 1) default := by
        rw [List.getD_eq_getElem?_getD, List.getElem?_drop, List.getD_eq_getElem?_getD, show k + j = i - 1 by omega]
      rw [e1, e2]
      exact h (i - 1) (by omega)
theorem OR.other {w w' : World} {base : Nat} {e : EM} {x : Ent} (h : OR w base e x) (hb : ∀ b, tyAt w b 96 → w'.heap[b]? = w.heap[b]?) : OR w' base e x :=
  ⟨h.key, h.time, h.seq, h.met, h.len, own_same h.row (fun g hg => hb g (own_ty h.row hg))⟩
theorem OR.below {w w' : World} {base : Nat} {e : EM} {x : Ent} (h : OR w base e x) (hb : Below w.heap.size w w') : OR w' base e x :=
  ⟨h.key, h.time, h.seq, h.met, h.len, own_below h.row hb⟩
def zeroX : Ent := ⟨⟨#[]⟩, 0, 0, [], false⟩
def zeroE : EM := ⟨⟨#[]⟩, 0, 0, (none, 0, 0), false⟩
theorem OR_zero (w : World) (base : Nat) : OR w base zeroE zeroX := ⟨rfl, rfl, rfl, rfl, rfl, World.ownsRow_nil _ _ _ _⟩
theorem OE_ins {w4 w5 w6 : World} {base g cap4 n p B rl c6 : Nat} {ad6 : Option Addr} {es : List EM} {l : List Ent} {y : Ent} {y5 : List Value} {ek : ByteArray} {et es1 : Int} {em1 : Bool}
    (h4 : OE w4 base (.slice (some ⟨g, 0, none⟩) (n + 1) cap4) (es ++ [zeroE]) (l ++ [zeroX])) (hn : es.length = n) (hl : es.length = l.length) (hp : p ≤ n)
    (hy5 : y5.length = 5) (hown5 : w5.ownsRow base 28 5 (.slice (some ⟨g, 0, none⟩) (n + 1) cap4) (n + 1) (entCells (es.take p) ++ y5 ++ entCells (es.drop p)))
    (hsz5 : w4.heap.size ≤ w5.heap.size) (hblk5 : ∀ b, b ≠ g → w5.heap[b]? = w4.heap[b]?) (hb6 : Below w5.heap.size w5 w6) (hov : ownV w6 w5.heap.size (.slice ad6 rl c6) y.row) (hrl : y.row.length = rl)
    (hBg : g ≠ B) (hB : tyAt w4 B 28) (hg : tyAt w4 g 28) (k1 : ek = y.key) (k2 : et = y.time) (k3 : es1 = y.seq) (k4 : em1 = y.met) (u : Value) :
    OE ((((((w6.setCell ⟨B, 3, none⟩ u).setCell ⟨g, p * 5, none⟩ (.string ek)).setCell ⟨g, p * 5 + 1, none⟩ (.int .i64 et)).setCell ⟨g, p * 5 + 2, none⟩ (.int .i64 es1)).setCell ⟨g, p * 5 + 3, none⟩ (.slice ad6 rl c6)).setCell ⟨g, p * 5 + 4, none⟩ (.bool em1)) base (.slice (some ⟨g, 0, none⟩) (n + 1) cap4)
      (es.take p ++ ⟨ek, et, es1, (ad6, rl, c6), em1⟩ :: es.drop p) (l.take p ++ y :: l.drop p) := by
  have hlen : (es.take p ++ (⟨ek, et, es1, (ad6, rl, c6), em1⟩ : EM) :: es.drop p).length = n + 1 := by
    rw [List.length_append, List.length_cons, List.length_take, List.length_drop]; omega
  have o6 := own_below hown5 hb6
  have o7 : (w6.setCell ⟨B, 3, none⟩ u).ownsRow base 28 5 (.slice (some ⟨g, 0, none⟩) (n + 1) cap4) (n + 1) (entCells (es.take p) ++ y5 ++ entCells (es.drop p)) :=
    own_same o6 (fun b hb => heap_setCell_other _ _ _ _ (fun e => by cases hb; exact hBg e))
  have o8 := own_set (own_set (own_set (own_set (own_set o7 (p * 5) (by omega) (.string ek)) (p * 5 + 1) (by omega) (.int .i64 et)) (p * 5 + 2) (by omega) (.int .i64 es1)) (p * 5 + 3) (by omega) (.slice ad6 rl c6)) (p * 5 + 4) (by omega) (.bool em1)
  have hA : (entCells (es.take p)).length = p * 5 := by rw [entCells_len, List.length_take]; congr 1; omega
  rw [room_set5 hA hy5] at o8
  have hs : ∀ b, b ≠ g → b ≠ B → ((((((w6.setCell ⟨B, 3, none⟩ u).setCell ⟨g, p * 5, none⟩ (.string ek)).setCell ⟨g, p * 5 + 1, none⟩ (.int .i64 et)).setCell ⟨g, p * 5 + 2, none⟩ (.int .i64 es1)).setCell ⟨g, p * 5 + 3, none⟩ (.slice ad6 rl c6)).setCell ⟨g, p * 5 + 4, none⟩ (.bool em1)).heap[b]? = w6.heap[b]? := fun b h1 h2 => by
    rw [heap_setCell_other _ _ _ _ h1, heap_setCell_other _ _ _ _ h1, heap_setCell_other _ _ _ _ h1, heap_setCell_other _ _ _ _ h1, heap_setCell_other _ _ _ _ h1, heap_setCell_other _ _ _ _ h2]
  have hsz : ((((((w6.setCell ⟨B, 3, none⟩ u).setCell ⟨g, p * 5, none⟩ (.string ek)).setCell ⟨g, p * 5 + 1, none⟩ (.int .i64 et)).setCell ⟨g, p * 5 + 2, none⟩ (.int .i64 es1)).setCell ⟨g, p * 5 + 3, none⟩ (.slice ad6 rl c6)).setCell ⟨g, p * 5 + 4, none⟩ (.bool em1)).heap.size = w6.heap.size := by simp [World.setCell]
  have lB : B < w4.heap.size := tyAt_lt hB
  have lg : g < w4.heap.size := tyAt_lt hg
  refine ⟨?_, ?_, ?_, ?_⟩
  · rw [hsz]; exact Nat.le_trans h4.low (Nat.le_trans hsz5 hb6.size)
  · rw [hlen, entCells_app]; exact o8
  · rw [hlen, List.length_append, List.length_cons, List.length_take, List.length_drop]; omega
  · refine rows_ins (R := OR _ base) (by omega) hl (fun i hi => ?_) ?_
    · have k := h4.rows i (by rw [List.length_append]; omega)
      rw [getD_app_left (by omega), getD_app_left (by omega)] at k
      refine k.other (fun b hb => ?_)
      have n1 : b ≠ g := tyAt_apart hb hg (by decide)
      have n2 : b ≠ B := tyAt_apart hb hB (by decide)
      have lb : b < w4.heap.size := tyAt_lt hb
      rw [hs b n1 n2, hb6.block b (by omega), hblk5 b n1]
    · refine ⟨k1, k2, k3, k4, hrl.symm, own_mono (own_same hov (fun b hb => ?_)) (Nat.le_trans h4.low hsz5)⟩
      have := (own_lt hov hb).1
      exact hs b (by omega) (by omega)
theorem cell_blk {w w' : World} {b : Nat} (h : w'.heap[b]? = w.heap[b]?) (o : Nat) : w'.cell? ⟨b, o, none⟩ = w.cell? ⟨b, o, none⟩ := by simp [World.cell?, h]
theorem frozen_blk {w w' : World} {b : Nat} (h : w'.heap[b]? = w.heap[b]?) (o : Nat) : w'.frozen? ⟨b, o, none⟩ = w.frozen? ⟨b, o, none⟩ := by simp [World.frozen?, h]
theorem box_later {w w' : World} {B : Nat} {ek : ByteArray} {et es1 : Int} {em1 : Bool} (hb : Below w.heap.size w w') (h : w.cell? ⟨B, 0, none⟩ = some (.string ek) ∧ w.cell? ⟨B, 1, none⟩ = some (.int .i64 et) ∧ w.cell? ⟨B, 2, none⟩ = some (.int .i64 es1) ∧ w.cell? ⟨B, 4, none⟩ = some (.bool em1) ∧ w.frozen? ⟨B, 3, none⟩ = false) (hl : B < w.heap.size) :
    w'.cell? ⟨B, 0, none⟩ = some (.string ek) ∧ w'.cell? ⟨B, 1, none⟩ = some (.int .i64 et) ∧ w'.cell? ⟨B, 2, none⟩ = some (.int .i64 es1) ∧ w'.cell? ⟨B, 4, none⟩ = some (.bool em1) ∧ w'.frozen? ⟨B, 3, none⟩ = false :=
  ⟨cell_later hb h.1, cell_later hb h.2.1, cell_later hb h.2.2.1, cell_later hb h.2.2.2.1, (hb.frozen (p := ⟨B, 3, none⟩) hl).trans h.2.2.2.2⟩
theorem room_cells {w : World} {base g n cap p : Nat} {A B y : List Value} (h : w.ownsRow base 28 5 (.slice (some ⟨g, 0, none⟩) n cap) n (A ++ y ++ B)) (hA : A.length = p * 5) (hy : y.length = 5) :
    (∃ u, w.cell? ⟨g, p * 5, none⟩ = some u) ∧ (∃ u, w.cell? ⟨g, p * 5 + 1, none⟩ = some u) ∧ (∃ u, w.cell? ⟨g, p * 5 + 1 + 1, none⟩ = some u) ∧ (∃ u, w.cell? ⟨g, p * 5 + 1 + 1 + 1, none⟩ = some u) ∧ (∃ u, w.cell? ⟨g, p * 5 + 1 + 1 + 1 + 1, none⟩ = some u) ∧ (∀ j, w.frozen? ⟨g, j, none⟩ = false) := by
  have hc := World.ownsRow.cells h (g := g) rfl
  have one : ∀ j, j < 5 → ∃ u, w.cell? ⟨g, p * 5 + j, none⟩ = some u := fun j hj => by
    have hj2 : j < y.length := by omega
    have := hc (p * 5 + j) y[j] (room_at5 hA (List.getElem?_eq_getElem hj2))
    rw [add_at, Nat.zero_add] at this
    exact ⟨_, this⟩
  exact ⟨one 0 (by omega), one 1 (by omega), one 2 (by omega), one 3 (by omega), one 4 (by omega), own_frozen h⟩
/-- what into leaves as it was -/
structure Left (w w' : World) (base : Nat) (v : Value) : Prop where
  size : w.heap.size ≤ w'.heap.size
  blk : ∀ k, k < w.heap.size → v.ownBlock ≠ some k → w'.heap[k]? = w.heap[k]?
theorem Left.refl (w : World) (base : Nat) (v : Value) : Left w w base v := ⟨Nat.le_refl _, fun _ _ _ => rfl⟩
set_option maxRecDepth 100000 in
set_option maxHeartbeats 8000000 in
theorem into_any (base : Nat) (ad : Option Addr) (cap : Nat) (es : List EM) (l : List Ent) (e : EM) (y : Ent) (w : World) (h : OE w base (.slice ad es.length cap) es l) (hr : ∀ w1, Below base w w1 → ER w1 e y) (hrise : Rise l) (hl : l.length ≤ 100000) (hrow : y.row.length ≤ 2000000) :
    Calls Try.prog 45 #[.slice ad es.length cap, e.val] w fun r w' => (∃ (hh : Hdr) (es' : List EM) (l' : List Ent), r = .returned (.tuple #[hdV hh, .bool (!hasB l (plOf y))]) ∧ OE w' base (hdV hh) es' l' ∧ (hasB l (plOf y) = true → l' = l) ∧ (hasB l (plOf y) = false → l'.Perm (y :: l) ∧ Rise l') ∧ (∀ g, (hdV hh).ownBlock = some g → (Value.slice ad es.length cap).ownBlock = some g ∨ w.heap.size ≤ g)) ∧ Below base w w' ∧ Left w w' base (.slice ad es.length cap) := by
  have HO : Hid (OE w base (.slice ad es.length cap) es l) := h
  have HR : Hid (Rise l) := hrise
  have HAT : Hid (emsAt w ad es) := OE.at h
  have HER : Hid (ER w e y) := hr w (Below.refl _ _)
  have KCP : Hid (∀ w1, Below base w w1 → Calls Try.prog 71 #[hdV e.row] w1 fun r w' => (∃ ad' c', r = .returned (.slice ad' y.row.length c') ∧ ownV w' w1.heap.size (.slice ad' y.row.length c') y.row) ∧ Below w1.heap.size w1 w') := fun w1 hb => by
    have k := rcopy_any e.row.1 e.row.2.2 y.row w1 (hr w1 hb).row hrow
    unfold hdV
    rw [(hr w1 hb).len]
    exact k
  have KC0 : Hid (∀ (f : EM) w1, Calls Try.prog 55 #[f.val, e.val] w1 fun r w' => r = .returned (.int .i64 (cmpP f.ent e.ent)) ∧ Below w1.heap.size w1 w') := fun f w1 => rcomp_any f e w1
  have HLN : Hid (es.length = l.length) := h.len
  have hlow := h.low
  obtain ⟨n, hn⟩ : ∃ n, es.length = n := ⟨_, rfl⟩
  have HN : Hid (es.length = n) := hn
  have HNL : Hid (l.length = n) := by show _ = _; rw [← h.len]; exact hn
  have hn1 : n ≤ 100000 := by rw [← hn, h.len]; exact hl
  rw [hn]
  have HCE : Hid (∀ (f : EM) (x : Ent), ER w f x → cmpP f.ent e.ent = cmpP x y) := fun f x h1 => cmpP_ent h1 (hr w (Below.refl _ _))
  obtain ⟨HB, hHB⟩ : ∃ z, hasB l (plOf y) = z := ⟨_, rfl⟩
  have HHB : Hid (hasB l (plOf y) = HB) := hHB
  rw [hHB]
  obtain ⟨rl, hrl⟩ : ∃ z, y.row.length = z := ⟨_, rfl⟩
  have HRL : Hid (y.row.length = rl) := hrl
  rw [hrl] at KCP
  clear hn h hr hrise hl hrow hHB hrl
  obtain ⟨ek, et, es1, ⟨r1, r2, r3⟩, em1⟩ := e
  unfold EM.val hdV at KC0
  unfold hdV at KCP
  rw [show EM.val ⟨ek, et, es1, (r1, r2, r3), em1⟩ = .agg #[.string ek, .int .i64 et, .int .i64 es1, .slice r1 r2 r3, .bool em1] from rfl]
  dsimp only at KC0 KCP
  have hb0 : Below w.heap.size w (w.alloc (.cells #[.string ek, .int .i64 et, .int .i64 es1, .slice r1 r2 r3, .bool em1] 28)) := (Below.refl _ _).alloc (Nat.le_refl _) _
  have k0 : (w.alloc (.cells #[.string ek, .int .i64 et, .int .i64 es1, .slice r1 r2 r3, .bool em1] 28)).cell? ⟨w.heap.size, 0, none⟩ = some (.string ek) := by go_simp
  have k1 : (w.alloc (.cells #[.string ek, .int .i64 et, .int .i64 es1, .slice r1 r2 r3, .bool em1] 28)).cell? ⟨w.heap.size, 1, none⟩ = some (.int .i64 et) := by go_simp
  have k2 : (w.alloc (.cells #[.string ek, .int .i64 et, .int .i64 es1, .slice r1 r2 r3, .bool em1] 28)).cell? ⟨w.heap.size, 2, none⟩ = some (.int .i64 es1) := by go_simp
  have k3 : (w.alloc (.cells #[.string ek, .int .i64 et, .int .i64 es1, .slice r1 r2 r3, .bool em1] 28)).cell? ⟨w.heap.size, 3, none⟩ = some (.slice r1 r2 r3) := by go_simp
  have k4 : (w.alloc (.cells #[.string ek, .int .i64 et, .int .i64 es1, .slice r1 r2 r3, .bool em1] 28)).cell? ⟨w.heap.size, 4, none⟩ = some (.bool em1) := by go_simp
  have kf : ∀ j, (w.alloc (.cells #[.string ek, .int .i64 et, .int .i64 es1, .slice r1 r2 r3, .bool em1] 28)).frozen? ⟨w.heap.size, j, none⟩ = false := by intro j; go_simp
  have hW0s : (w.alloc (.cells #[.string ek, .int .i64 et, .int .i64 es1, .slice r1 r2 r3, .bool em1] 28)).heap.size = w.heap.size + 1 := by simp
  have HTY : Hid (tyAt (w.alloc (.cells #[.string ek, .int .i64 et, .int .i64 es1, .slice r1 r2 r3, .bool em1] 28)) w.heap.size 28) := ⟨_, _, World.alloc_heap_new _ _⟩
  go_enter Try.func45, Try.ntmps45
  go_wp2
  generalize w.alloc (.cells #[.string ek, .int .i64 et, .int .i64 es1, .slice r1 r2 r3, .bool em1] 28) = W0 at *
  go_loopw [6, 7, 8, 9] (fun lo hi _ _ wr => ∃ p q : Nat, lo = .int .i64 p ∧ hi = .int .i64 q ∧ Cut l y p q ∧ Below W0.heap.size W0 wr) (fun lo hi _ _ _ => (intOf hi).toNat - (intOf lo).toNat)
  case atStart => exact ⟨0, n, rfl, rfl, by rw [← HNL.out]; exact Cut.start l y, Below.refl _ _⟩
  case round =>
    obtain ⟨p, q, rfl, rfl, hcut, hnx⟩ := hrel
    have HCUT : Hid (Cut l y p q) := hcut
    have hpq := hcut.le
    have hqn : q ≤ n := by rw [← HNL.out]; exact hcut.top
    have hbr : Below w.heap.size w wr := hb0.trans (hnx.mono (by omega))
    have c0 := cell_later hnx k0
    have c1 := cell_later hnx k1
    have c2 := cell_later hnx k2
    have c3 := cell_later hnx k3
    have c4 := cell_later hnx k4
    have lw : w.heap.size < wr.heap.size := World.block_lt_of_cell? _ _ c0
    clear hcut
    by_cases hlt : p < q
    · obtain ⟨m, hm⟩ : ∃ m, (p + q) / 2 = m := ⟨_, rfl⟩
      have hm1 : p ≤ m := by omega
      have hm2 : m < q := by omega
      have hws : IntKind.i64.wrap ((p : Int) + (q : Int)) = (p : Int) + (q : Int) := by rw [wrap_is]; omega
      have hdv : ((p : Int) + (q : Int)).tdiv 2 = (m : Int) := by rw [Int.tdiv_eq_ediv_of_nonneg (by omega)]; omega
      have hdv2 : ((p : Int) + (q : Int)) / 2 = (m : Int) := by omega
      have hwm : IntKind.i64.wrap (m : Int) = (m : Int) := by rw [wrap_is]; omega
      have hml : m < l.length := by rw [HNL.out]; omega
      obtain ⟨b1, o1, e1, x1, x2, x3, x4, x5⟩ := HAT.out m (by rw [HN.out]; omega)
      subst e1
      have z1 := cell_later hbr x1
      have z2 := cell_later hbr x2
      have z3 := cell_later hbr x3
      have z4 := cell_later hbr x4
      have z5 := cell_later hbr x5
      have her := (HO.out.rows m hml).er
      have hcmp := HCE.out _ _ her
      have KC : Hid (∀ w1, Calls Try.prog 55 #[(es.getD m default).val, .agg #[.string ek, .int .i64 et, .int .i64 es1, .slice r1 r2 r3, .bool em1]] w1 fun r w' => r = .returned (.int .i64 (cmpP (l.getD m default) y)) ∧ Below w1.heap.size w1 w') := fun w1 => by rw [← hcmp]; exact KC0.out _ w1
      have HG : Hid (l.getD m default = l[m]) := getD_at hml
      obtain ⟨cv, hcv⟩ : ∃ z, cmpP (l.getD m default) y = z := ⟨_, rfl⟩
      have HCV : Hid (cmpP (l.getD m default) y = cv) := hcv
      rw [hcv] at KC
      obtain ⟨⟨fk, ft, fs, ⟨f1, f2, f3⟩, fm⟩, hz⟩ : ∃ z, es.getD m default = z := ⟨_, rfl⟩
      rw [hz] at z1 z2 z3 z4 z5 KC
      unfold EM.val hdV at KC
      unfold hdV at z4
      dsimp only at z1 z2 z3 z4 z5 KC
      have i1 : (0 : Int) ≤ (m : Int) := by omega
      have i2 : (m : Int) < (n : Int) := by omega
      have lb1 : b1 < wr.heap.size := World.block_lt_of_cell? _ _ z1
      clear hz hcv hcmp her x1 x2 x3 x4 x5 hm KC0
      by_cases v0 : cv = 0
      · subst v0
        have HH : Hid (HB = true) := by
          show HB = true
          rw [← HHB.out]
          refine has_at hml ?_
          rw [← HG.out]; exact cmpP_zero.1 HCV.out
        go_wp2
        go_region_held3
          (fun w' => w'.cell? ⟨b1, o1 + m * 5, none⟩ = some (.string fk) ∧ w'.cell? ⟨b1, o1 + m * 5 + 1, none⟩ = some (.int .i64 ft) ∧ w'.cell? ⟨b1, o1 + m * 5 + 1 + 1, none⟩ = some (.int .i64 fs) ∧ w'.cell? ⟨b1, o1 + m * 5 + 1 + 1 + 1, none⟩ = some (.slice f1 f2 f3) ∧ w'.cell? ⟨b1, o1 + m * 5 + 1 + 1 + 1 + 1, none⟩ = some (.bool fm) ∧ w'.cell? ⟨w.heap.size, 0, none⟩ = some (.string ek) ∧ w'.cell? ⟨w.heap.size, 1, none⟩ = some (.int .i64 et) ∧ w'.cell? ⟨w.heap.size, 2, none⟩ = some (.int .i64 es1) ∧ w'.cell? ⟨w.heap.size, 3, none⟩ = some (.slice r1 r2 r3) ∧ w'.cell? ⟨w.heap.size, 4, none⟩ = some (.bool em1))
          (first | go_keep | exact ⟨cell_later hbq z1, cell_later hbq z2, cell_later hbq z3, cell_later hbq z4, cell_later hbq z5, cell_later hbq c0, cell_later hbq c1, cell_later hbq c2, cell_later hbq c3, cell_later hbq c4⟩)
          (first | (go_at_call 55; refine (KC.out _).mono ?_; rintro e2 wq ⟨rfl, hbq0⟩; have hbq : Below wr.heap.size wr wq := (Below.refl _ _).drew.trans hbq0))
        all_goals
          have hlq : Below w.heap.size w wq := hbr.trans (hbq.mono hbr.size)
          have hlb : Below base w wq := hlq.mono hlow
          go_wp2
          go_ret2
          refine ⟨⟨(some ⟨b1, o1, none⟩, n, cap), es, l, ?_, ?_, fun _ => rfl, fun h => ?_, fun g hg => .inl hg⟩, hlb, hlq.size, fun k hk _ => hlq.block k hk⟩
          · rw [HH.out]; rfl
          · rw [← HN.out]; exact HO.out.below hlq
          · rw [HH.out] at h; cases h
      · have v0' : (cv == 0) = false := by simpa using v0
        by_cases v1 : cv < 0
        · have HLT : Hid (ltP l[m] y) := by
            show ltP l[m] y
            rw [← HG.out]; exact cmpP_neg.1 (by rw [HCV.out]; exact v1)
          go_wp2
          go_region_held3
            (fun w' => w'.cell? ⟨b1, o1 + m * 5, none⟩ = some (.string fk) ∧ w'.cell? ⟨b1, o1 + m * 5 + 1, none⟩ = some (.int .i64 ft) ∧ w'.cell? ⟨b1, o1 + m * 5 + 1 + 1, none⟩ = some (.int .i64 fs) ∧ w'.cell? ⟨b1, o1 + m * 5 + 1 + 1 + 1, none⟩ = some (.slice f1 f2 f3) ∧ w'.cell? ⟨b1, o1 + m * 5 + 1 + 1 + 1 + 1, none⟩ = some (.bool fm) ∧ w'.cell? ⟨w.heap.size, 0, none⟩ = some (.string ek) ∧ w'.cell? ⟨w.heap.size, 1, none⟩ = some (.int .i64 et) ∧ w'.cell? ⟨w.heap.size, 2, none⟩ = some (.int .i64 es1) ∧ w'.cell? ⟨w.heap.size, 3, none⟩ = some (.slice r1 r2 r3) ∧ w'.cell? ⟨w.heap.size, 4, none⟩ = some (.bool em1))
            (first | go_keep | exact ⟨cell_later hbq z1, cell_later hbq z2, cell_later hbq z3, cell_later hbq z4, cell_later hbq z5, cell_later hbq c0, cell_later hbq c1, cell_later hbq c2, cell_later hbq c3, cell_later hbq c4⟩)
            (first | (go_at_call 55; refine (KC.out _).mono ?_; rintro e2 wq ⟨rfl, hbq0⟩; have hbq : Below wr.heap.size wr wq := (Below.refl _ _).drew.trans hbq0))
          all_goals
            go_wp2
            go_roundw
            case rel => exact ⟨m + 1, q, by go_num, rfl, HCUT.out.up HR.out hm2 hml hm1 HLT.out, hnx.trans (hbq.mono hnx.size)⟩
            case measure => simp [intOf]; omega
        · have HGT : Hid (ltP y l[m]) := by
            show ltP y l[m]
            rcases ltP_tri l[m] y with h3 | h3 | h3
            · have k : ltP (l.getD m default) y := by rw [HG.out]; exact h3
              exact absurd (cmpP_neg.2 k) (by rw [HCV.out]; exact v1)
            · have k : sameP (l.getD m default) y := by rw [HG.out]; exact h3
              exact absurd (cmpP_zero.2 k) (by rw [HCV.out]; exact v0)
            · exact h3
          go_wp2
          go_region_held3
            (fun w' => w'.cell? ⟨b1, o1 + m * 5, none⟩ = some (.string fk) ∧ w'.cell? ⟨b1, o1 + m * 5 + 1, none⟩ = some (.int .i64 ft) ∧ w'.cell? ⟨b1, o1 + m * 5 + 1 + 1, none⟩ = some (.int .i64 fs) ∧ w'.cell? ⟨b1, o1 + m * 5 + 1 + 1 + 1, none⟩ = some (.slice f1 f2 f3) ∧ w'.cell? ⟨b1, o1 + m * 5 + 1 + 1 + 1 + 1, none⟩ = some (.bool fm) ∧ w'.cell? ⟨w.heap.size, 0, none⟩ = some (.string ek) ∧ w'.cell? ⟨w.heap.size, 1, none⟩ = some (.int .i64 et) ∧ w'.cell? ⟨w.heap.size, 2, none⟩ = some (.int .i64 es1) ∧ w'.cell? ⟨w.heap.size, 3, none⟩ = some (.slice r1 r2 r3) ∧ w'.cell? ⟨w.heap.size, 4, none⟩ = some (.bool em1))
            (first | go_keep | exact ⟨cell_later hbq z1, cell_later hbq z2, cell_later hbq z3, cell_later hbq z4, cell_later hbq z5, cell_later hbq c0, cell_later hbq c1, cell_later hbq c2, cell_later hbq c3, cell_later hbq c4⟩)
            (first | (go_at_call 55; refine (KC.out _).mono ?_; rintro e2 wq ⟨rfl, hbq0⟩; have hbq : Below wr.heap.size wr wq := (Below.refl _ _).drew.trans hbq0))
          all_goals
            go_wp2
            go_roundw
            case rel => exact ⟨p, m, rfl, rfl, HCUT.out.down HR.out hm2 hml hm1 HGT.out, hnx.trans (hbq.mono hnx.size)⟩
            case measure => simp [intOf]; omega
    · have hpe : p = q := by omega
      subst hpe
      have HH : Hid (HB = false) := by show HB = false; rw [← HHB.out]; exact HCUT.out.none
      have hOr : OE wr base (.slice ad n cap) es l := by rw [← HN.out]; exact HO.out.below hbr
      have HOR : Hid (OE wr base (.slice ad n cap) es l) := hOr
      have HOW : Hid (wr.ownsRow base 28 5 (.slice ad n cap) n (entCells es)) := by
        have k := hOr.own
        rw [HN.out] at k
        exact k
      have hvlt : ∀ b, (Value.slice ad n cap).ownBlock = some b → b < w.heap.size := fun b hb => by
        have k := HO.out.own
        rw [HN.out] at k
        exact (own_lt k hb).2
      have HVL : Hid (∀ b, (Value.slice ad n cap).ownBlock = some b → b < w.heap.size) := hvlt
      have hfr : ∀ j, wr.frozen? ⟨w.heap.size, j, none⟩ = false := fun j => (hnx.frozen (p := ⟨w.heap.size, j, none⟩) (by show w.heap.size < _; omega)).trans (kf j)
      have HTB : Hid (tyAt wr w.heap.size 28) := tyAt_below HTY.out hnx
      obtain ⟨i0, hi0, hz0, hz1, hz2⟩ := info_parts infoE
      have HI : Hid (Try.prog.info? 28 = some i0 ∧ i0.zero = some (.agg #[.string ⟨#[]⟩, .int .i64 0, .int .i64 0, .slice none 0 0, .bool false]) ∧ i0.size = 5 ∧ i0.bytes = 64) := ⟨hi0, hz0, hz1, hz2⟩
      have hbl : base ≤ wr.heap.size := Nat.le_trans hlow hbr.size
      have hwp : IntKind.i64.wrap ((p : Int) + 1) = (p : Int) + 1 := by rw [wrap_is]; omega
      clear hi0 hz0 hz1 hz2 hOr hvlt
      go_wp2_with (at_builtin; refine wpList_append_lies _ rfl (.tmp 33) (.tmp 35) 22 rfl base 28 i0 (.agg #[.string ⟨#[]⟩, .int .i64 0, .int .i64 0, .slice none 0 0, .bool false]) 5 64 Try.underlying22 HI.out.1 HI.out.2.1 HI.out.2.2.1 HI.out.2.2.2 rfl (by decide) (.slice ad n cap) n (entCells es) rfl (World.ownsRow.alloc HOW.out _) ⟨wr.heap.size, 0, none⟩ 1 1 [.string ⟨#[]⟩, .int .i64 0, .int .i64 0, .slice none 0 0, .bool false] rfl rfl (cell_five_new _ _ _ _ _ _ _) (by intro u hu; simp at hu; rcases hu with rfl | rfl | rfl | rfl | rfl <;> rfl) (by decide) (by unfold maxLen; omega) (by omega) (by simp; omega) (wr.heap.size + 1) (by simp) ?_; intro g cap4 w4 hown4 hgrow4 hat4 hlt4)
      have hcap4 : n + 1 ≤ cap4 := own_cap hown4
      have hg4 := own_lt hown4 (g := g) rfl
      have HSN : Hid (OE w4 base (.slice (some ⟨g, 0, none⟩) (n + 1) cap4) (es ++ [zeroE]) (l ++ [zeroX]) ∧ Below base wr w4) := by
        have k := OE_snoc (e := zeroE) (x := zeroX) (g := g) (cap2 := cap4) HOR.out (Below.refl _ _) (OR_zero _ _) (by rw [HN.out]; exact hown4) hgrow4
        rw [HN.out] at k
        exact k
      have hbox4 : w4.heap[w.heap.size]? = wr.heap[w.heap.size]? := by
        rw [hgrow4.block w.heap.size (by simp; omega) (fun e => by have := HVL.out _ e.symm; omega)]
        exact Below.heap_alloc _ _ _ lw
      have hgb : g ≠ w.heap.size := by
        rcases hat4 with h1 | h1
        · have := HVL.out g h1; omega
        · omega
      have hgat : ∀ g', (Value.slice (some ⟨g, 0, none⟩) (n + 1) cap4).ownBlock = some g' → (Value.slice ad n cap).ownBlock = some g' ∨ w.heap.size ≤ g' := fun g' hg' => by
        have e : g = g' := by cases hg'; rfl
        subst e
        rcases hat4 with h1 | h1
        · exact .inl h1
        · exact .inr (by omega)
      have HGAT : Hid (∀ g', (Value.slice (some ⟨g, 0, none⟩) (n + 1) cap4).ownBlock = some g' → (Value.slice ad n cap).ownBlock = some g' ∨ w.heap.size ≤ g') := hgat
      have hleft4 : ∀ k, k < w.heap.size → (Value.slice ad n cap).ownBlock ≠ some k → w4.heap[k]? = w.heap[k]? := fun k hk hne => by
        rw [hgrow4.block k (by simp; omega) (fun e => hne e.symm), Below.heap_alloc _ _ _ (by omega)]
        exact hbr.block k hk
      have HL4 : Hid (∀ k, k < w.heap.size → (Value.slice ad n cap).ownBlock ≠ some k → w4.heap[k]? = w.heap[k]?) := hleft4
      have hsz4 : wr.heap.size ≤ w4.heap.size := by have := hgrow4.size; simp at this; omega
      obtain ⟨bl, hbl2⟩ : ∃ z, n - p = z := ⟨_, rfl⟩
      have hsum : p + bl = n := by omega
      obtain ⟨d2, hf2n, hd2⟩ := back_en g (n + 1) cap4 (p + 1) (by omega) hcap4
      obtain ⟨s2, hf3n, hs2⟩ := back_en g (n + 1) cap4 p (by omega) hcap4
      rw [show n + 1 - (p + 1) = bl by omega] at hf2n
      rw [show n + 1 - p = bl + 1 by omega] at hf3n
      have hf2 : ∀ w, (Instr.sliceAt 22 (.slice (some ⟨g, 0, none⟩) (n + 1) cap4) (some (.int .i64 ((p : Int) + 1))) none none).run Try.prog w = .ok (.slice (some d2) bl (cap4 - (p + 1))) w := hf2n
      have hf3 : ∀ w, (Instr.sliceAt 22 (.slice (some ⟨g, 0, none⟩) (n + 1) cap4) (some (.int .i64 (p : Int))) none none).run Try.prog w = .ok (.slice (some s2) (bl + 1) (cap4 - p)) w := hf3n
      have hsplit : entCells es = entCells (es.take p) ++ entCells (es.drop p) := by rw [← entCells_app, List.take_append_drop]
      have HLA : Hid ((entCells (es.take p)).length = p * 5) := by show _ = _; rw [entCells_len, List.length_take, HN.out, Nat.min_eq_left (by omega)]
      have HLB : Hid ((entCells (es.drop p)).length = bl * 5) := by show _ = _; rw [entCells_len, List.length_drop, HN.out, hbl2]
      have HROOM : Hid (∀ ty, ∃ w3, (Builtin.copy_ #[22, 22] ty #[.slice (some d2) bl (cap4 - (p + 1)), .slice (some s2) (bl + 1) (cap4 - p)]).run Try.prog w4.drew = .ok (goInt bl) w3 ∧
          (∃ y, y.length = 5 ∧ w3.ownsRow base 28 5 (.slice (some ⟨g, 0, none⟩) (n + 1) cap4) (n + 1) (entCells (es.take p) ++ y ++ entCells (es.drop p))) ∧ w3.heap.size = w4.drew.heap.size ∧ (∀ b, b ≠ g → w3.heap[b]? = w4.drew.heap[b]?) ∧ Below g w4.drew w3) := fun ty =>
        own_room (w2 := w4.drew) (na := p) (nb := bl) (s := 5) (z := [.string ⟨#[]⟩, .int .i64 0, .int .i64 0, .slice none 0 0, .bool false]) 22 28 i0 Try.underlying22 HI.out.1 HI.out.2.2.1 (World.ownsRow.drew (by rw [← hsplit]; exact hown4)) HLA.out HLB.out rfl hsum (entCells_one _) (some d2) (some s2) (cap4 - (p + 1)) (cap4 - p) (fun h => congrArg some (hd2 (by omega))) (fun h => congrArg some (hs2 (by omega))) ty
      have HT4 : Hid (tyAt w4 g 28) := own_ty hown4 rfl
      clear hf2n hf3n hd2 hs2 hown4 hgrow4 hsplit hat4 hgat hleft4
      go_wp2
      go_region_law (first
        | (obtain ⟨w5, hrun5, ⟨y5, hy5, hown5⟩, hsz5, hblk5, hbl5⟩ := HROOM.out 3; refine step_cpy (by rfl) (.tmp 40) (.tmp 43) (by rfl) (.slice (some d2) bl (cap4 - (p + 1))) (.slice (some s2) (bl + 1) (cap4 - p)) _ (by simp [Act.eval, Act.put]) (by simp [Act.eval, Act.put]) hrun5 ?_))
      all_goals
        have HB5 : Below base w w5 := by
          have h1 : Below base w wr := hbr.mono hlow
          have h2 : Below base w w4 := h1.trans HSN.out.2
          exact h2.trans ((Below.refl _ _).drew.trans (hbl5.mono hg4.1))
        have hsz5' : w5.heap.size = w4.heap.size := hsz5
        have hblk5' : ∀ b, b ≠ g → w5.heap[b]? = w4.heap[b]? := hblk5
        have hbx5 : w5.heap[w.heap.size]? = wr.heap[w.heap.size]? := (hblk5' _ hgb.symm).trans hbox4
        have HX5 : Hid (w5.cell? ⟨w.heap.size, 0, none⟩ = some (.string ek) ∧ w5.cell? ⟨w.heap.size, 1, none⟩ = some (.int .i64 et) ∧ w5.cell? ⟨w.heap.size, 2, none⟩ = some (.int .i64 es1) ∧ w5.cell? ⟨w.heap.size, 4, none⟩ = some (.bool em1) ∧ w5.frozen? ⟨w.heap.size, 3, none⟩ = false) :=
          ⟨(cell_blk hbx5 0).trans c0, (cell_blk hbx5 1).trans c1, (cell_blk hbx5 2).trans c2, (cell_blk hbx5 4).trans c4, (frozen_blk hbx5 3).trans (hfr 3)⟩
        have d3 : w5.cell? ⟨w.heap.size, 3, none⟩ = some (.slice r1 r2 r3) := (cell_blk hbx5 3).trans c3
        have lw5 : w.heap.size < w5.heap.size := by omega
        have lg5 : g < w5.heap.size := by omega
        have HO5 : Hid (w5.ownsRow base 28 5 (.slice (some ⟨g, 0, none⟩) (n + 1) cap4) (n + 1) (entCells (es.take p) ++ y5 ++ entCells (es.drop p))) := hown5
        have HY5 : Hid (y5.length = 5) := hy5
        have HK5 : Hid ((∀ b, b ≠ g → w5.heap[b]? = w4.heap[b]?) ∧ w5.heap.size = w4.heap.size ∧ Below base w w5) := ⟨hblk5', hsz5', HB5⟩
        clear hown5 hy5 hblk5 hblk5' hbl5 hsz5 hrun5 HROOM hbx5 c0 c1 c2 c3 c4 HB5
        have i1 : (0 : Int) ≤ (p : Int) := by omega
        have i2 : (p : Int) < ((n + 1 : Nat) : Int) := by omega
        have i3 : (p : Int) < (n : Int) + 1 := by omega
        go_wp2_with (go_at_call 71; refine (KCP.out _ HK5.out.2.2).mono ?_; rintro e2 w6 ⟨⟨ad6, c6, rfl, hov6⟩, hb6⟩; have HOV : Hid (ownV w6 w5.heap.size (.slice ad6 rl c6) y.row ∧ Below w5.heap.size w5 w6) := ⟨hov6, hb6⟩; have b3 := cell_later hb6 d3; obtain ⟨b0, b1, b2, b4, b5⟩ := box_later hb6 HX5.out lw5; have lw6 : w.heap.size < w6.heap.size := World.block_lt_of_cell? _ _ b3; obtain ⟨⟨u0, g0⟩, ⟨u1, g1⟩, ⟨u2, g2⟩, ⟨u3, g3⟩, ⟨u4, g4⟩, gz⟩ := room_cells (own_below HO5.out hb6) HLA.out HY5.out; have gz0 := gz (p * 5); have gz1 := gz (p * 5 + 1); have gz2 := gz (p * 5 + 1 + 1); have gz3 := gz (p * 5 + 1 + 1 + 1); have gz4 := gz (p * 5 + 1 + 1 + 1 + 1); clear gz hov6 hb6)
        have hoe := OE_ins (u := .slice ad6 rl c6) HSN.out.1 HN.out HLN.out hqn HY5.out HO5.out (Nat.le_of_eq HK5.out.2.1.symm) HK5.out.1 HOV.out.2 HOV.out.1 HRL.out hgb (tyAt_of HTB.out hbox4) HT4.out HER.out.key HER.out.time HER.out.seq HER.out.met
        have hgl : base ≤ g := hg4.1
        have h6 : Below base w w6 := HK5.out.2.2.trans (HOV.out.2.mono (by omega))
        have h7 : Below base w (w6.setCell ⟨w.heap.size, 3, none⟩ (.slice ad6 rl c6)) := h6.setCell hlow _
        have hbb := ((((h7.setCell (p := ⟨g, p * 5, none⟩) hgl (.string ek)).setCell (p := ⟨g, p * 5 + 1, none⟩) hgl (.int .i64 et)).setCell (p := ⟨g, p * 5 + 2, none⟩) hgl (.int .i64 es1)).setCell (p := ⟨g, p * 5 + 3, none⟩) hgl (.slice ad6 rl c6)).setCell (p := ⟨g, p * 5 + 4, none⟩) hgl (.bool em1)
        have hng : ∀ k, k < w.heap.size → (Value.slice ad n cap).ownBlock ≠ some k → k ≠ g := fun k hk hne e => by
          subst e
          rcases HGAT.out k rfl with h1 | h1
          · exact hne h1
          · omega
        have hlf : ∀ k, k < w.heap.size → (Value.slice ad n cap).ownBlock ≠ some k → ((((((w6.setCell ⟨w.heap.size, 3, none⟩ (.slice ad6 rl c6)).setCell ⟨g, p * 5, none⟩ (.string ek)).setCell ⟨g, p * 5 + 1, none⟩ (.int .i64 et)).setCell ⟨g, p * 5 + 2, none⟩ (.int .i64 es1)).setCell ⟨g, p * 5 + 3, none⟩ (.slice ad6 rl c6)).setCell ⟨g, p * 5 + 4, none⟩ (.bool em1)).heap[k]? = w.heap[k]? := fun k hk hne => by
          have h1 := hng k hk hne
          rw [heap_setCell_other _ _ _ _ h1, heap_setCell_other _ _ _ _ h1, heap_setCell_other _ _ _ _ h1, heap_setCell_other _ _ _ _ h1, heap_setCell_other _ _ _ _ h1, heap_setCell_other _ _ _ _ (by dsimp only; omega), HOV.out.2.block k (by omega), HK5.out.1 k h1, HL4.out k hk hne]
        go_ret2
        refine ⟨⟨(some ⟨g, 0, none⟩, n + 1, cap4), _, l.take p ++ y :: l.drop p, ?_, hoe, fun h => ?_, fun _ => ⟨Cut.perm p, HCUT.out.rise HR.out⟩, HGAT.out⟩, hbb, hbb.size, hlf⟩
        · rw [HH.out]; rfl
        · rw [HH.out] at h; cases h
end Go.Proofs.Ytnfknkihiapgiaa.bf
