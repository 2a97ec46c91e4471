import Derived.Test.YtbfbgdinhiglaaaGreatS29
import Derived.Test.YtbfbgdinhiglaaaGreatS33
import Derived.Test.YtbfbgdinhiglaaaGreatS19
import Derived.Deep.DeepCutAuto
import Derived.Deep.CutBlock
namespace Go.Proofs.YtbfbgdinhiglaaaGreat.gr
open Go.ChangeShapes Go.WideShapes Go.ChangeAt Go.RowKit
open vl pl bt
set_option linter.unusedVariables false
set_option linter.unusedSimpArgs false
attribute [local go_sem] Oper.semAt_some
structure CO where
 k : Int
 rv : Value
 row : List Cel
instance : Inhabited CO := ⟨⟨0, .slice none 0 0, []⟩⟩
def CO.chg (x : CO) : ch.Chg := ⟨x.k, x.row⟩
def CO.pair (x : CO) : Int × Value := (x.k, x.rv)
def CG (w : World) (base : Nat) (v : Value) (L : List CO) : Prop := Est w base ((⟨v, 65, 2, L.length, ch.flatC (L.map CO.pair)⟩ : Own1) :: L.map fun x => rowOw x.rv x.row)
theorem CG.start {w : World} {base : Nat} (h : base ≤ w.heap.size) : CG w base (.slice none 0 0) [] :=
 ⟨h, fun y hy => by
  rcases List.mem_cons.1 hy with rfl | hy
  ·exact World.ownsRow_nil _ _ _ _
  ·exact absurd hy List.not_mem_nil, List.pairwise_cons.2 ⟨fun y hy => absurd hy List.not_mem_nil, List.Pairwise.nil⟩⟩
theorem CG.below {w w' : World} {base : Nat} {v : Value} {L : List CO} (h : CG w base v L) (hb : Below w.heap.size w w') : CG w' base v L := Est_below h hb
theorem CG.own {w : World} {base : Nat} {v : Value} {L : List CO} (h : CG w base v L) : w.ownsRow base 65 2 v L.length (ch.flatC (L.map CO.pair)) := Est.own h _ (List.mem_cons_self ..)
theorem CG.add {w w1 w2 : World} {base : Nat} {v v' : Value} {L : List CO} {rv : Value} {row : List Cel} {k : Int} {o : Obj} (h : CG w base v L) (hb : Below w.heap.size w w1) (hv : ownV w1 w.heap.size rv row) (hg : (w1.alloc o).grownBy w2 v.ownBlock) (hx : w2.ownsRow base 65 2 v' (L.length + 1) (ch.flatC (L.map CO.pair ++ [(k, rv)]))) (hat : ∀ g, v'.ownBlock = some g → v.ownBlock = some g ∨ w1.heap.size + 1 ≤ g) : CG w2 base v' (L ++ [⟨k, rv, row⟩]) := by
 have h1 : Est w1 base (rowOw rv row :: (⟨v, 65, 2, L.length, ch.flatC (L.map CO.pair)⟩ : Own1) :: L.map fun x => rowOw x.rv x.row) := Est_new (x := rowOw rv row) h hb (World.ownsRow.mono hv (Est.low h)) (fun g hg => (ch.own_lt hv hg).1)
 have h2 := Est_below (Est_perm h1 (List.Perm.swap _ _ _)) (bR.alloc nR o)
 have e1 : (L ++ [(⟨k, rv, row⟩ : CO)]).length = L.length + 1 := by simp
 have e2 : (L ++ [(⟨k, rv, row⟩ : CO)]).map CO.pair = L.map CO.pair ++ [(k, rv)] := by rw [List.map_append]; rfl
 have h3 := Est_grow (x' := (⟨v', 65, 2, (L ++ [(⟨k, rv, row⟩ : CO)]).length, ch.flatC ((L ++ [(⟨k, rv, row⟩ : CO)]).map CO.pair)⟩ : Own1)) h2 hg (by rw [e1, e2]; exact hx) (fun g hg => by
  rcases hat g hg with h | h
  ·exact .inl h
  ·right; simp; exact h)
 refine Est_perm h3 (perm_of (fun a => ?_))
 simp only [List.map_append, List.map_cons, List.map_nil, List.count_append, List.count_cons, List.count_nil]
 omega
theorem CG.add2 {w w1 w2 : World} {base : Nat} {v v' : Value} {L : List CO} {rv sv : Value} {row srow : List Cel} {k k2 : Int} {o : Obj} {E : List Own1} (h : Est w base ((⟨v, 65, 2, L.length, ch.flatC (L.map CO.pair)⟩ : Own1) :: rowOw rv row :: rowOw sv srow :: L.map fun x => rowOw x.rv x.row)) (hb : Below w.heap.size w w1) (hg : (w1.alloc o).grownBy w2 v.ownBlock) (hx : w2.ownsRow base 65 2 v' (L.length + 2) (ch.flatC (L.map CO.pair ++ [(k, rv), (k2, sv)]))) (hat : ∀ g, v'.ownBlock = some g → v.ownBlock = some g ∨ w1.heap.size + 1 ≤ g) : CG w2 base v' (L ++ [⟨k, rv, row⟩, ⟨k2, sv, srow⟩]) := by
 have h2 := Est_below (Est_below h hb) (bR.alloc nR o)
 have e1 : (L ++ [(⟨k, rv, row⟩ : CO), ⟨k2, sv, srow⟩]).length = L.length + 2 := by simp
 have e2 : (L ++ [(⟨k, rv, row⟩ : CO), ⟨k2, sv, srow⟩]).map CO.pair = L.map CO.pair ++ [(k, rv), (k2, sv)] := by rw [List.map_append]; rfl
 have h3 := Est_grow (x' := (⟨v', 65, 2, (L ++ [(⟨k, rv, row⟩ : CO), ⟨k2, sv, srow⟩]).length, ch.flatC ((L ++ [(⟨k, rv, row⟩ : CO), ⟨k2, sv, srow⟩]).map CO.pair)⟩ : Own1)) h2 hg (by rw [e1, e2]; exact hx) (fun g hg => by
  rcases hat g hg with h | h
  ·exact .inl h
  ·right; simp; exact h)
 refine Est_perm h3 (perm_of (fun a => ?_))
 simp only [List.map_append, List.map_cons, List.map_nil, List.count_append, List.count_cons, List.count_nil]
 omega
theorem CG.two {w w1 w2 : World} {base : Nat} {v : Value} {L : List CO} {rv sv : Value} {row srow : List Cel} (h : CG w base v L) (hb1 : Below w.heap.size w w1) (hv1 : ownV w1 w.heap.size rv row) (hb2 : Below w1.heap.size w1 w2) (hv2 : ownV w2 w1.heap.size sv srow) : Est w2 base ((⟨v, 65, 2, L.length, ch.flatC (L.map CO.pair)⟩ : Own1) :: rowOw rv row :: rowOw sv srow :: L.map fun x => rowOw x.rv x.row) := by
 have h1 := Est_new (x := rowOw rv row) h hb1 (World.ownsRow.mono hv1 (Est.low h)) (fun g hg => (ch.own_lt hv1 hg).1)
 have h2 := Est_new (x := rowOw sv srow) h1 hb2 (World.ownsRow.mono hv2 h1.low) (fun g hg => (ch.own_lt hv2 hg).1)
 refine Est_perm h2 (perm_of (fun a => ?_))
 simp only [List.count_cons]
 omega
theorem CG.left {w : World} {base : Nat} {v : Value} {L : List CO} {rv sv : Value} {row srow : List Cel} (h : Est w base ((⟨v, 65, 2, L.length, ch.flatC (L.map CO.pair)⟩ : Own1) :: rowOw rv row :: rowOw sv srow :: L.map fun x => rowOw x.rv x.row)) : CG w base v L := by
 have h1 : Est w base ([rowOw rv row, rowOw sv srow] ++ ((⟨v, 65, 2, L.length, ch.flatC (L.map CO.pair)⟩ : Own1) :: L.map fun x => rowOw x.rv x.row)) := by
  refine Est_perm h (perm_of (fun a => ?_))
  simp only [List.count_append, List.count_cons, List.count_nil]
  omega
 exact Est_drop h1
theorem wpList_appG2 {ops : Array Oper} {rest : List Oper} {o : Oper} {a : Act} {Q : Exit → Act → World → Prop} (hgd : o.guard = none) (s x : Operand)
 (hop : o.op = .call { callee := .builtin .append, args := #[s, x], argTypes := #[36, 36] })
 (base : Nat) (v : Value) (l : List (Int × Value)) (n1 : Int) (v1 : Value) (n2 : Int) (v2 : Value) (w1 : World) (ln : Nat) (hln : l.length = ln) (ho : w1.ownsRow base 65 2 v ln (ch.flatC l)) (hl : ln ≤ 1000000000) (hb : base ≤ w1.heap.size) (o1 : v1.oneCell' = true) (o2 : v2.oneCell' = true)
 (hs : a.eval s = v) (hx : a.eval x = .slice (some ⟨w1.heap.size, 0, none⟩) 2 2)
 (h : ∀ g cap2 w2, w2.ownsRow base 65 2 (.slice (some ⟨g, 0, none⟩) (ln + 2) cap2) (ln + 2) (ch.flatC (l ++ [(n1, v1), (n2, v2)])) → (w1.alloc (.cells #[.int .i64 n1, v1, .int .i64 n2, v2] 65)).grownBy w2 v.ownBlock → (v.ownBlock = some g ∨ g = w1.heap.size + 1) → g < w2.heap.size → wpList Tryz.prog ops Q rest (a.put o.dst (.slice (some ⟨g, 0, none⟩) (ln + 2) cap2)) w2) :
 wpList Tryz.prog ops Q (o :: rest) a (w1.alloc (.cells #[.int .i64 n1, v1, .int .i64 n2, v2] 65)) := by
 obtain ⟨i0, hi, hz0, hz1, hz2⟩ := info_parts ch.infoG
 refine wpList_append_lies _ hgd s x 36 hop base 65 i0 (.agg #[.int .i64 0, .slice none 0 0]) 2 32 Tryz.underlying36 hi hz0 hz1 hz2 rfl (by decide) v ln (ch.flatC l) hs
  (ho.alloc _) ⟨w1.heap.size, 0, none⟩ 2 2 [.int .i64 n1, v1, .int .i64 n2, v2] hx rfl (cell_four_new _ _ _ _ _ _) (by intro u hu; simp at hu; rcases hu with rfl | rfl | rfl | rfl <;> first | rfl | assumption) (by decide) (by unfold maxLen; omega) (by omega) (by simp; omega) (w1.heap.size + 1) (by simp) ?_
 intro g cap2 w2 h2 h3 h4 h5
 refine h g cap2 w2 ?_ h3 h4 h5
 rw [ch.flatC_app]
 exact h2
theorem getD_pair (L : List CO) (i : Nat) (h : i < L.length) : (L.map CO.pair).getD i (0, .bool false) = ((L.getD i default).k, (L.getD i default).rv) ∧ (L.map CO.chg).getD i default = ⟨(L.getD i default).k, (L.getD i default).row⟩ := by
 simp [List.getD_eq_getElem?_getD, h, CO.pair, CO.chg]
theorem CG.chgs {w : World} {base : Nat} {v : Value} {L : List CO} (h : CG w base v L) : v = .slice (adOf v) L.length (cpOf v) ∧ ch.chgsAt w (adOf v) (L.map CO.chg) := by
 have ho := h.own
 refine ⟨own_is ho, fun i hi => ?_⟩
 have hi2 : i < L.length := by simpa using hi
 rcases ho.2 with ⟨hv, h0⟩ | ⟨g, c, cur, hv, _⟩
 ·omega
 ·have hc := World.ownsRow.cells ho (g := g) (by rw [hv]; rfl)
  obtain ⟨f1, f2⟩ := ch.flatC_at (L.map CO.pair) i (by simpa using hi2)
  obtain ⟨e1, e2⟩ := getD_pair L i hi2
  rw [e1] at f1 f2
  have c1 := hc _ _ f1
  have c2 := hc _ _ f2
  rw [ch.add_at, Nat.zero_add] at c1 c2
  have hr : ownV w base (L.getD i default).rv (L.getD i default).row := Est.own h (rowOw (L.getD i default).rv (L.getD i default).row) (List.mem_cons_of_mem _ (List.mem_map.2 ⟨L.getD i default, by rw [List.getD_eq_getElem?_getD, List.getElem?_eq_getElem hi2]; exact List.getElem_mem hi2, rfl⟩))
  have er := own_is hr
  rw [er] at hr c2
  refine ⟨g, 0, adOf (L.getD i default).rv, cpOf (L.getD i default).rv, by rw [hv]; rfl, ?_, ?_, ?_⟩
  ·rw [e2, Nat.zero_add]; exact c1
  ·rw [e2, Nat.zero_add]; exact c2
  ·rw [e2]; exact vl.ownV_row hr
theorem step_appG1 {ops : Array Oper} {o : Oper} {a : Act} {K : Act → World → Prop} {Q : Exit → Act → World → Prop} {E : Prop} (hgd : o.guard = none) (s x : Operand)
 (hop : o.op = .call { callee := .builtin .append, args := #[s, x], argTypes := #[36, 36] })
 (base : Nat) (v : Value) (l : List (Int × Value)) (n1 : Int) (v1 : Value) (w1 : World) (ln : Nat) (hln : l.length = ln) (ho : w1.ownsRow base 65 2 v ln (ch.flatC l)) (hl : ln ≤ 1000000000) (hb : base ≤ w1.heap.size) (o1 : v1.oneCell' = true)
 (hs : a.eval s = v) (hx : a.eval x = .slice (some ⟨w1.heap.size, 0, none⟩) 1 1)
 (h : ∀ g cap2 w2, w2.ownsRow base 65 2 (.slice (some ⟨g, 0, none⟩) (ln + 1) cap2) (ln + 1) (ch.flatC (l ++ [(n1, v1)])) → (w1.alloc (.cells #[.int .i64 n1, v1] 65)).grownBy w2 v.ownBlock → (v.ownBlock = some g ∨ g = w1.heap.size + 1) → g < w2.heap.size → K (a.put o.dst (.slice (some ⟨g, 0, none⟩) (ln + 1) cap2)) w2) :
 if Region.wanted o (yielded ops a.tmps) = true then Oper.wp Tryz.prog o a (w1.alloc (.cells #[.int .i64 n1, v1] 65)) K Q else E := by
 obtain ⟨i0, hi, hz0, hz1, hz2⟩ := info_parts ch.infoG
 refine step_append_lies _ hgd s x 36 hop base 65 i0 (.agg #[.int .i64 0, .slice none 0 0]) 2 32 Tryz.underlying36 hi hz0 hz1 hz2 rfl (by decide) v ln (ch.flatC l) hs
  (ho.alloc _) ⟨w1.heap.size, 0, none⟩ 1 1 [.int .i64 n1, v1] hx rfl (cell_two_new _ _ _ _) (by intro u hu; simp at hu; rcases hu with rfl | rfl <;> first | rfl | assumption) (by decide) (by unfold maxLen; omega) (by omega) (by simp; omega) (w1.heap.size + 1) (by simp) ?_
 intro g cap2 w2 h2 h3 h4 h5
 refine h g cap2 w2 ?_ h3 h4 h5
 rw [ch.flatC_app]
 exact h2
theorem rowr_take {p : Pln} {g : Grp} (h : g.row.length = p.group.length) : (rowC p g).r.take p.group.length = g.row := by
 show (g.row ++ figsG p g).take p.group.length = g.row
 rw [← h, List.take_left]
theorem drop_G (l : List Grp) (k : Nat) (h : k < l.length) : l.drop k = l.getD k default :: l.drop (k + 1) := by
 rw [List.drop_eq_getElem_cons h, List.getD_eq_getElem?_getD, List.getElem?_eq_getElem h]; rfl
noncomputable def firstG (gs gs2 : List Grp) (i k : Nat) : Int := if i = gs.length then 1 else if k = gs2.length then -1 else cmpRows (gs.getD i default).row (gs2.getD k default).row
theorem told_less {p : Pln} {gs gs2 : List Grp} {i k : Nat} (hl : ∀ g ∈ gs, g.row.length = p.group.length) (hl2 : ∀ g ∈ gs2, g.row.length = p.group.length) (hi : i ≤ gs.length) (hk : k ≤ gs2.length) (h : firstG gs gs2 i k < 0) : i < gs.length ∧ toldR p.group.length ((gs.drop i).map fun g => (rowC p g).r) ((gs2.drop k).map fun g => (rowC p g).r) = ⟨2, (rowC p (gs.getD i default)).r⟩ :: toldR p.group.length ((gs.drop (i + 1)).map fun g => (rowC p g).r) ((gs2.drop k).map fun g => (rowC p g).r) := by
 unfold firstG at h
 have hi2 : i < gs.length := by
  rcases Nat.lt_or_ge i gs.length with h2 | h2
  ·exact h2
  ·rw [if_pos (by omega)] at h; omega
 refine ⟨hi2, ?_⟩
 rw [if_neg (by omega)] at h
 rw [drop_G gs i hi2, List.map_cons]
 by_cases hk2 : k < gs2.length
 ·rw [if_neg (by omega)] at h
  rw [drop_G gs2 k hk2, List.map_cons, toldR, rowr_take (hl _ (getD_mm hi2)), rowr_take (hl2 _ (getD_mm hk2)), if_pos h]
 ·rw [List.drop_of_length_le (l := gs2) (i := k) (by omega), List.map_nil, toldR]
theorem told_more {p : Pln} {gs gs2 : List Grp} {i k : Nat} (hl : ∀ g ∈ gs, g.row.length = p.group.length) (hl2 : ∀ g ∈ gs2, g.row.length = p.group.length) (hi : i ≤ gs.length) (hk : k ≤ gs2.length) (hik : i < gs.length ∨ k < gs2.length) (h : 0 < firstG gs gs2 i k) : k < gs2.length ∧ toldR p.group.length ((gs.drop i).map fun g => (rowC p g).r) ((gs2.drop k).map fun g => (rowC p g).r) = ⟨1, (rowC p (gs2.getD k default)).r⟩ :: toldR p.group.length ((gs.drop i).map fun g => (rowC p g).r) ((gs2.drop (k + 1)).map fun g => (rowC p g).r) := by
 unfold firstG at h
 by_cases hi2 : i < gs.length
 ·rw [if_neg (by omega)] at h
  have hk2 : k < gs2.length := by
   rcases Nat.lt_or_ge k gs2.length with h2 | h2
   ·exact h2
   ·rw [if_pos (by omega)] at h; omega
  refine ⟨hk2, ?_⟩
  rw [if_neg (by omega)] at h
  rw [drop_G gs i hi2, List.map_cons, drop_G gs2 k hk2, List.map_cons, toldR, rowr_take (hl _ (getD_mm hi2)), rowr_take (hl2 _ (getD_mm hk2)), if_neg (by omega), if_pos h]
 ·have hk2 : k < gs2.length := by omega
  refine ⟨hk2, ?_⟩
  rw [List.drop_of_length_le (l := gs) (i := i) (by omega), List.map_nil, drop_G gs2 k hk2, List.map_cons, toldR]
theorem told_same {p : Pln} {gs gs2 : List Grp} {i k : Nat} (hl : ∀ g ∈ gs, g.row.length = p.group.length) (hl2 : ∀ g ∈ gs2, g.row.length = p.group.length) (hi : i ≤ gs.length) (hk : k ≤ gs2.length) (h : firstG gs gs2 i k = 0) : i < gs.length ∧ k < gs2.length ∧ toldR p.group.length ((gs.drop i).map fun g => (rowC p g).r) ((gs2.drop k).map fun g => (rowC p g).r) = (if (rowC p (gs.getD i default)).r = (rowC p (gs2.getD k default)).r then [] else [⟨3, (rowC p (gs.getD i default)).r⟩, ⟨4, (rowC p (gs2.getD k default)).r⟩]) ++ toldR p.group.length ((gs.drop (i + 1)).map fun g => (rowC p g).r) ((gs2.drop (k + 1)).map fun g => (rowC p g).r) := by
 unfold firstG at h
 have hi2 : i < gs.length := by
  rcases Nat.lt_or_ge i gs.length with h2 | h2
  ·exact h2
  ·rw [if_pos (by omega)] at h; omega
 rw [if_neg (by omega)] at h
 have hk2 : k < gs2.length := by
  rcases Nat.lt_or_ge k gs2.length with h2 | h2
  ·exact h2
  ·rw [if_pos (by omega)] at h; omega
 rw [if_neg (by omega)] at h
 refine ⟨hi2, hk2, ?_⟩
 rw [drop_G gs i hi2, List.map_cons, drop_G gs2 k hk2, List.map_cons, toldR, rowr_take (hl _ (getD_mm hi2)), rowr_take (hl2 _ (getD_mm hk2)), if_neg (by omega), if_neg (by omega)]
end Go.Proofs.YtbfbgdinhiglaaaGreat.gr
