import Derived.Test.YtbfbgdinhiglaaaGreatMgBatI
import Derived.Test.YtbfbgdinhiglaaaGreatS13
import Derived.Test.YtbfbgdinhiglaaaGreatMgPlnA
import Derived.Test.YtbfbgdinhiglaaaGreatS9
import Derived.Lib.Overlaps
import Derived.Laws.Externs
import Derived.Shelf.Spec.SlicesInsert
import Derived.Shelf.Spec.SlicesInsertGrow
/- Groups as lists, in memory, and what is wrong with them (H1). -/
namespace Go.Proofs.YtbfbgdinhiglaaaGreat.gr
open Go.ChangeShapes Go.WideShapes Go.ChangeAt Go.RowKit
open vl pl bt
set_option linter.unusedVariables false
set_option linter.unusedSimpArgs false
structure Grp where
  row : List Cel
  n : Int
  bags : List (List Tal)
instance : Inhabited Grp := ⟨⟨[], 0, []⟩⟩
/-- where a group's lists lie -/
structure GX where
  r : Option Addr
  rc : Nat
  b : Option Addr
  bc : Nat
  hs : List (Option Addr × Nat × Nat)
instance : Inhabited GX := ⟨⟨none, 0, none, 0, []⟩⟩
def grpV (x : GX) (g : Grp) : Value := .agg #[.slice x.r g.row.length x.rc, .int .i64 g.n, .slice x.b g.bags.length x.bc]
/-- a group in memory -/
structure gAt (w : World) (x : GX) (g : Grp) : Prop where
  row : vl.rowAt w x.r g.row
  hs : hdrsAt w x.b x.hs
  len : x.hs.length = g.bags.length
  hl : ∀ i, i < g.bags.length → (x.hs.getD i (none, 0, 0)).2.1 = (g.bags.getD i []).length
  bag : ∀ i, i < g.bags.length → bagAt w (x.hs.getD i (none, 0, 0)).1 (g.bags.getD i [])
theorem rowAt_later {w w' : World} {a : Option Addr} {r : List Cel} (h : vl.rowAt w a r) (hb : Below w.heap.size w w') : vl.rowAt w' a r := vl.rowAt_below h hb
theorem hdrsAt_below {w w' : World} {a : Option Addr} {l : List (Option Addr × Nat × Nat)} (h : hdrsAt w a l) (hb : Below w.heap.size w w') : hdrsAt w' a l := fun i hi => by
  obtain ⟨b, o, e, x⟩ := h i hi
  exact ⟨b, o, e, cell_later hb x⟩
theorem gAt.below {w w' : World} {x : GX} {g : Grp} (h : gAt w x g) (hb : Below w.heap.size w w') : gAt w' x g :=
  ⟨rowAt_later h.row hb, hdrsAt_below h.hs hb, h.len, h.hl, fun i hi => bagAt_below (h.bag i hi) hb⟩
structure gsAt (w : World) (a : Option Addr) (xs : List GX) (gs : List Grp) : Prop where
  len : xs.length = gs.length
  cells : ∀ i, i < gs.length → ∃ b o, a = some ⟨b, o, none⟩ ∧ w.cell? ⟨b, o + i * 3, none⟩ = some (.slice (xs.getD i default).r (gs.getD i default).row.length (xs.getD i default).rc) ∧ w.cell? ⟨b, o + i * 3 + 1, none⟩ = some (.int .i64 (gs.getD i default).n) ∧ w.cell? ⟨b, o + i * 3 + 2, none⟩ = some (.slice (xs.getD i default).b (gs.getD i default).bags.length (xs.getD i default).bc)
  each : ∀ i, i < gs.length → gAt w (xs.getD i default) (gs.getD i default)
theorem gsAt.below {w w' : World} {a : Option Addr} {xs : List GX} {gs : List Grp} (h : gsAt w a xs gs) (hb : Below w.heap.size w w') : gsAt w' a xs gs :=
  ⟨h.len, fun i hi => by
    obtain ⟨b, o, e, x1, x2, x3⟩ := h.cells i hi
    exact ⟨b, o, e, cell_later hb x1, cell_later hb x2, cell_later hb x3⟩, fun i hi => (h.each i hi).below hb⟩
/-- what any group is -/
structure wfG (g : Grp) : Prop where
  row : wfRow g.row
  rl : g.row.length ≤ 9223372036854775807
  n : i64 g.n
  bl : g.bags.length ≤ 9223372036854775807
  tl : ∀ l ∈ g.bags, l.length ≤ 9223372036854775807 ∧ ∀ t ∈ l, t.1.s.size ≤ maxLen ∧ i64 t.1.n ∧ i64 t.2
/-- a value of a column's type, or Null -/
def valB (c : Cel) (col : Int) : Bool := decide (chk c.k c.n c.s = 0) && (decide (c.k = 0) || decide (c.k = col))
/-- one tally behind others -/
def talB (col rest : Int) (prev : Option Cel) (t : Tal) : Bool := valB t.1 col && decide (1 ≤ t.2) && decide (t.2 ≤ rest) && (match prev with | none => true | some c => decide (cmpC c t.1 < 0))
def talsB (col : Int) : Int → Option Cel → List Tal → Bool
  | rest, _, [] => decide (rest = 0)
  | rest, prev, t :: l => talB col rest prev t && talsB col (rest - t.2) (some t.1) l
def prevOf (l : List Tal) (k : Nat) : Option Cel := if k = 0 then none else some (l.getD (k - 1) default).1
theorem tals_step {col rest : Int} {l : List Tal} {k : Nat} (h : k < l.length) : talsB col rest (prevOf l k) (l.drop k) = (talB col rest (prevOf l k) (l.getD k default) && talsB col (rest - (l.getD k default).2) (prevOf l (k + 1)) (l.drop (k + 1))) := by
  have e : l.drop k = l.getD k default :: l.drop (k + 1) := by
    rw [List.drop_eq_getElem_cons h, List.getD_eq_getElem?_getD, List.getElem?_eq_getElem h]; rfl
  rw [e, talsB]
  unfold prevOf
  simp
theorem tals_end {col rest : Int} {l : List Tal} {k : Nat} (h : l.length ≤ k) : talsB col rest (prevOf l k) (l.drop k) = decide (rest = 0) := by
  rw [List.drop_of_length_le h, talsB]
/-- a figure's bag in a group of n rows -/
def bagB (c : List Int) (a : Int × Int) (n : Int) (l : List Tal) : Bool := if a.1 = 1 then decide (l.length = 0) else talsB (c.getD a.2.toNat 0) n none l
def bagsB (c : List Int) (aggs : List (Int × Int)) (g : Grp) : Bool := decide (g.bags.length = aggs.length) && allB g.bags.length (fun i => bagB c (aggs.getD i (0, 0)) g.n (g.bags.getD i []))
def ownCols (p : Pln) : List Int := p.group.map fun at1 => (cols p).getD at1.toNat 0
/-- the group at a place is right -/
def grpB (p : Pln) (gs : List Grp) (i : Nat) : Bool :=
  decide (keyErr (gs.getD i default).row = 0) && typedB (gs.getD i default).row (ownCols p) && (decide (1 ≤ (gs.getD i default).n) && decide ((gs.getD i default).n ≤ 1073741824)) && (decide (i = 0) || decide (cmpRows (gs.getD (i - 1) default).row (gs.getD i default).row < 0)) && bagsB (cols p) p.aggs (gs.getD i default)
/-- what is wrong with groups -/
noncomputable def grpsErr (p : Pln) (gs : List Grp) : Int := if planErr p ≠ 0 then planErr p else if p.grouped = false then 1 else if 4096 < gs.length then 2 else if allB gs.length (grpB p gs) = false then 1 else 0
end Go.Proofs.YtbfbgdinhiglaaaGreat.gr
/- slices.Insert behind the last, at tallies and at groups. -/
namespace Go.Proofs.YtbfbgdinhiglaaaGreat.gr
open Go.ChangeShapes Go.WideShapes Go.ChangeAt Go.RowKit
open vl pl bt
set_option linter.unusedVariables false
set_option linter.unusedSimpArgs false
attribute [local go_sem] Oper.semAt_some
theorem infoG : (Tryz.prog.info? 53).map (fun i => (i.zero, i.size, i.bytes)) = some (some (.agg #[.slice none 0 0, .int .i64 0, .slice none 0 0]), 3, 56) := by kernel_rfl
set_option maxRecDepth 100000 in
set_option maxHeartbeats 4000000 in
theorem insT_end (ad : Option Addr) (n cap : Nat) (xs : List Value) (base X : Nat) (k1 k2 : Int) (ks : ByteArray) (m : Int) (w : World) (ho : w.ownsRow base 82 4 (.slice ad n cap) n xs) (hn : n ≤ 1073741824) (hb : base ≤ w.heap.size) (c0 : w.cell? ⟨X, 0, none⟩ = some (.int .i64 k1)) (c1 : w.cell? ⟨X, 1, none⟩ = some (.int .i64 k2)) (c2 : w.cell? ⟨X, 2, none⟩ = some (.string ks)) (c3 : w.cell? ⟨X, 3, none⟩ = some (.int .i64 m)) :
    Calls Tryz.prog 132 #[.slice ad n cap, .int .i64 n, .slice (some ⟨X, 0, none⟩) 1 1] w fun e w' => ∃ g cap2, e = .returned (.slice (some ⟨g, 0, none⟩) (n + 1) cap2) ∧ w'.ownsRow base 82 4 (.slice (some ⟨g, 0, none⟩) (n + 1) cap2) (n + 1) (xs ++ [.int .i64 k1, .int .i64 k2, .string ks, .int .i64 m]) ∧ w.grownBy w' (Value.slice ad n cap).ownBlock ∧ ((Value.slice ad n cap).ownBlock = some g ∨ g = w.heap.size) ∧ g < w'.heap.size := by
  obtain ⟨i0, hii, hz0, hz1, hz2⟩ := info_parts infoT
  have HI : Hid (Tryz.prog.info? 82 = some i0 ∧ i0.zero = some (.agg #[.int .i64 0, .int .i64 0, .string ⟨#[]⟩, .int .i64 0]) ∧ i0.size = 4 ∧ i0.bytes = 40) := ⟨hii, hz0, hz1, hz2⟩
  have HO : Hid (w.ownsRow base 82 4 (.slice ad n cap) n xs) := ho
  have HC : Hid (∀ j u, [.int .i64 k1, .int .i64 k2, .string ks, .int .i64 m][j]? = some u → w.cell? ((⟨X, 0, none⟩ : Addr).add j) = some u) := fun j u hu => by
    match j, hu with
    | 0, hu => simp at hu; subst hu; exact c0
    | 1, hu => simp at hu; subst hu; exact c1
    | 2, hu => simp at hu; subst hu; exact c2
    | 3, hu => simp at hu; subst hu; exact c3
    | j + 4, hu => simp at hu
  have hform : (ad = none ∧ n = 0 ∧ cap = 0) ∨ ∃ g, ad = some ⟨g, 0, none⟩ ∧ n ≤ cap := by
    rcases ho.2 with ⟨hv, h0⟩ | ⟨g, cap', cur, hv, h1, hg, h2, h3, h4, h5⟩
    · cases hv; exact .inl ⟨rfl, rfl, rfl⟩
    · cases hv; exact .inr ⟨g, rfl, h2⟩
  clear c0 c1 c2 c3 ho hii hz0 hz1 hz2
  rcases hform with ⟨rfl, rfl, rfl⟩ | ⟨g0, rfl, hcap⟩
  · go_enter Tryz.func132, Tryz.ntmps132
    go_wp2_with (at_builtin; refine wpList_append_lies _ rfl (.tmp 23) (.tmp 24) 61 rfl base 82 i0 (.agg #[.int .i64 0, .int .i64 0, .string ⟨#[]⟩, .int .i64 0]) 4 40 Tryz.underlying61 HI.out.1 HI.out.2.1 HI.out.2.2.1 HI.out.2.2.2 rfl (by decide) _ 0 xs rfl HO.out ⟨X, 0, none⟩ 1 1 [.int .i64 k1, .int .i64 k2, .string ks, .int .i64 m] rfl rfl HC.out (by intro u hu; simp at hu; rcases hu with rfl | rfl | rfl | rfl <;> rfl) (by decide) (by unfold maxLen; omega) (by omega) hb _ rfl ?_; intro g cap4 w4 hown4 hgrow4 hat4 hlt4)
    go_ret
    exact ⟨g, cap4, rfl, hown4, hgrow4, hat4, hlt4⟩
  · have i1 : (0 : Int) ≤ (n : Int) := by omega
    have i2 : (n : Int) ≤ (n : Int) := by omega
    have i3 : (n : Int) ≤ (cap : Int) := by omega
    have i4 : ((n : Int) == (n : Int)) = true := by simp
    go_enter Tryz.func132, Tryz.ntmps132
    go_wp2_with (at_builtin; refine wpList_append_lies _ rfl (.tmp 23) (.tmp 24) 61 rfl base 82 i0 (.agg #[.int .i64 0, .int .i64 0, .string ⟨#[]⟩, .int .i64 0]) 4 40 Tryz.underlying61 HI.out.1 HI.out.2.1 HI.out.2.2.1 HI.out.2.2.2 rfl (by decide) _ n xs rfl HO.out ⟨X, 0, none⟩ 1 1 [.int .i64 k1, .int .i64 k2, .string ks, .int .i64 m] rfl rfl HC.out (by intro u hu; simp at hu; rcases hu with rfl | rfl | rfl | rfl <;> rfl) (by decide) (by unfold maxLen; omega) (by omega) hb _ rfl ?_; intro g cap4 w4 hown4 hgrow4 hat4 hlt4)
    all_goals
      go_ret
      exact ⟨g, cap4, rfl, hown4, hgrow4, hat4, hlt4⟩
set_option maxRecDepth 100000 in
set_option maxHeartbeats 4000000 in
theorem insG_end (ad : Option Addr) (n cap : Nat) (xs : List Value) (base X : Nat) (ra : Option Addr) (rl rc : Nat) (m : Int) (ba : Option Addr) (bl bc : Nat) (w : World) (ho : w.ownsRow base 53 3 (.slice ad n cap) n xs) (hn : n ≤ 1073741824) (hb : base ≤ w.heap.size) (c0 : w.cell? ⟨X, 0, none⟩ = some (.slice ra rl rc)) (c1 : w.cell? ⟨X, 1, none⟩ = some (.int .i64 m)) (c2 : w.cell? ⟨X, 2, none⟩ = some (.slice ba bl bc)) :
    Calls Tryz.prog 85 #[.slice ad n cap, .int .i64 n, .slice (some ⟨X, 0, none⟩) 1 1] w fun e w' => ∃ g cap2, e = .returned (.slice (some ⟨g, 0, none⟩) (n + 1) cap2) ∧ w'.ownsRow base 53 3 (.slice (some ⟨g, 0, none⟩) (n + 1) cap2) (n + 1) (xs ++ [.slice ra rl rc, .int .i64 m, .slice ba bl bc]) ∧ w.grownBy w' (Value.slice ad n cap).ownBlock ∧ ((Value.slice ad n cap).ownBlock = some g ∨ g = w.heap.size) ∧ g < w'.heap.size := by
  obtain ⟨i0, hii, hz0, hz1, hz2⟩ := info_parts infoG
  have HI : Hid (Tryz.prog.info? 53 = some i0 ∧ i0.zero = some (.agg #[.slice none 0 0, .int .i64 0, .slice none 0 0]) ∧ i0.size = 3 ∧ i0.bytes = 56) := ⟨hii, hz0, hz1, hz2⟩
  have HO : Hid (w.ownsRow base 53 3 (.slice ad n cap) n xs) := ho
  have HC : Hid (∀ j u, [.slice ra rl rc, .int .i64 m, .slice ba bl bc][j]? = some u → w.cell? ((⟨X, 0, none⟩ : Addr).add j) = some u) := fun j u hu => by
    match j, hu with
    | 0, hu => simp at hu; subst hu; exact c0
    | 1, hu => simp at hu; subst hu; exact c1
    | 2, hu => simp at hu; subst hu; exact c2
    | j + 3, hu => simp at hu
  have hform : (ad = none ∧ n = 0 ∧ cap = 0) ∨ ∃ g, ad = some ⟨g, 0, none⟩ ∧ n ≤ cap := by
    rcases ho.2 with ⟨hv, h0⟩ | ⟨g, cap', cur, hv, h1, hg, h2, h3, h4, h5⟩
    · cases hv; exact .inl ⟨rfl, rfl, rfl⟩
    · cases hv; exact .inr ⟨g, rfl, h2⟩
  clear c0 c1 c2 ho hii hz0 hz1 hz2
  rcases hform with ⟨rfl, rfl, rfl⟩ | ⟨g0, rfl, hcap⟩
  · go_enter Tryz.func85, Tryz.ntmps85
    go_wp2_with (at_builtin; refine wpList_append_lies _ rfl (.tmp 23) (.tmp 24) 26 rfl base 53 i0 (.agg #[.slice none 0 0, .int .i64 0, .slice none 0 0]) 3 56 Tryz.underlying26 HI.out.1 HI.out.2.1 HI.out.2.2.1 HI.out.2.2.2 rfl (by decide) _ 0 xs rfl HO.out ⟨X, 0, none⟩ 1 1 [.slice ra rl rc, .int .i64 m, .slice ba bl bc] rfl rfl HC.out (by intro u hu; simp at hu; rcases hu with rfl | rfl | rfl <;> rfl) (by decide) (by unfold maxLen; omega) (by omega) hb _ rfl ?_; intro g cap4 w4 hown4 hgrow4 hat4 hlt4)
    go_ret
    exact ⟨g, cap4, rfl, hown4, hgrow4, hat4, hlt4⟩
  · have i1 : (0 : Int) ≤ (n : Int) := by omega
    have i2 : (n : Int) ≤ (n : Int) := by omega
    have i3 : (n : Int) ≤ (cap : Int) := by omega
    have i4 : ((n : Int) == (n : Int)) = true := by simp
    go_enter Tryz.func85, Tryz.ntmps85
    go_wp2_with (at_builtin; refine wpList_append_lies _ rfl (.tmp 23) (.tmp 24) 26 rfl base 53 i0 (.agg #[.slice none 0 0, .int .i64 0, .slice none 0 0]) 3 56 Tryz.underlying26 HI.out.1 HI.out.2.1 HI.out.2.2.1 HI.out.2.2.2 rfl (by decide) _ n xs rfl HO.out ⟨X, 0, none⟩ 1 1 [.slice ra rl rc, .int .i64 m, .slice ba bl bc] rfl rfl HC.out (by intro u hu; simp at hu; rcases hu with rfl | rfl | rfl <;> rfl) (by decide) (by unfold maxLen; omega) (by omega) hb _ rfl ?_; intro g cap4 w4 hown4 hgrow4 hat4 hlt4)
    all_goals
      go_ret
      exact ⟨g, cap4, rfl, hown4, hgrow4, hat4, hlt4⟩
end Go.Proofs.YtbfbgdinhiglaaaGreat.gr
/- slices.Insert in between, where there is room. -/
namespace Go.Proofs.YtbfbgdinhiglaaaGreat.gr
open Go.ChangeShapes Go.WideShapes Go.ChangeAt Go.RowKit
open vl pl bt
set_option linter.unusedVariables false
set_option linter.unusedSimpArgs false
attribute [local go_sem] Oper.semAt_some
set_option maxRecDepth 100000 in
set_option maxHeartbeats 4000000 in
theorem insT_shift (g n cap i : Nat) (A B : List Value) (base X : Nat) (k1 k2 : Int) (ks : ByteArray) (m : Int) (w : World) (ho : w.ownsRow base 82 4 (.slice (some ⟨g, 0, none⟩) n cap) n (A ++ B)) (hA : A.length = i * 4) (hi : i < n) (hroom : n + 1 ≤ cap) (hX : w.heap[X]? = some (.cells #[.int .i64 k1, .int .i64 k2, .string ks, .int .i64 m] 82 (0, 0))) (hne : X ≠ g) (hone : ∀ u ∈ B, u.oneCell' = true) :
    Calls Tryz.prog 132 #[.slice (some ⟨g, 0, none⟩) n cap, .int .i64 i, .slice (some ⟨X, 0, none⟩) 1 1] w fun e w' => e = .returned (.slice (some ⟨g, 0, none⟩) (n + 1) cap) ∧ w'.ownsRow base 82 4 (.slice (some ⟨g, 0, none⟩) (n + 1) cap) (n + 1) (A ++ [.int .i64 k1, .int .i64 k2, .string ks, .int .i64 m] ++ B) ∧ (∀ b, b ≠ g → w'.heap[b]? = w.heap[b]?) ∧ w'.heap.size = w.heap.size ∧ Below g w w' := by
  obtain ⟨i0, hii, hz0, hz1, hz2⟩ := info_parts infoT
  have hcap : cap ≤ maxLen := by
    rcases ho.2 with ⟨hv, _⟩ | ⟨g', cap', cur, hv, h1, hg, h2, h3, h4, h5⟩
    · cases hv
    · cases hv; exact h3
  have hgh : ∃ cur, w.heap[g]? = some (.cells cur 82 (0, 0)) ∧ cur.size = cap * 4 := by
    rcases ho.2 with ⟨hv, _⟩ | ⟨g', cap', cur, hv, h1, hg, h2, h3, h4, h5⟩
    · cases hv
    · cases hv; exact ⟨cur, hg, h4⟩
  obtain ⟨cur, hg, hcs⟩ := hgh
  obtain ⟨z, hzl, ho1⟩ := own_more ho hroom
  have hBl : B.length = (n - i) * 4 := by
    have := ho.1
    rw [List.length_append, hA] at this
    omega
  have hsz : ∀ w, (Go.sizeOf 82).run Tryz.prog w = .ok 4 w := fun w => by simp [Go.sizeOf, Go.typeInfo, hii, hz1]
  have hov : ∀ lb cb, (callFunc 160 #[.slice (some ⟨X, 0, none⟩) 1 1, .slice (some ⟨g, (i + 1) * 4, none⟩) lb cb]).run Tryz.prog w = .ok (.value (.bool false)) w := fun lb cb => by
    rw [run_callFunc_extern Tryz.func160 (by kernel_rfl) (by kernel_rfl) (by kernel_rfl) (e := Extern.SlicesOverlaps.overlaps #[61, 61] #[4]) (by kernel_rfl),
      Lib.run_overlaps_apart w 61 4 82 Tryz.underlying61 4 hsz ⟨X, 0, none⟩ ⟨g, (i + 1) * 4, none⟩ 1 1 lb cb hne 82 82 4 (cap * 4) (by simp [World.shape?, hX]) (by simp [World.shape?, hg, hcs]) (by omega) (by simp [World.frozen?, hX]) (by simp [World.frozen?, hX])]
    rfl
  have mixed : Tryz.prog.follows .mixedOrders = true := by kernel_rfl
  have hw1 : IntKind.i64.wrap ((i : Int) + 1) = (i : Int) + 1 := by rw [IntKind.wrap_i64]; unfold maxLen at hcap; omega
  have hw2 : IntKind.i64.wrap ((n : Int) + 1) = (n : Int) + 1 := by rw [IntKind.wrap_i64]; unfold maxLen at hcap; omega
  have e1 : ¬ ((i : Int) = (n : Int)) := by omega
  have e2 : ((i : Int) == (n : Int)) = false := by simp; omega
  have e3 : ¬ ((n : Int) + 1 > (cap : Int)) := by omega
  have e4 : (0 : Int) ≤ (i : Int) + 1 := by omega
  have e5 : (0 : Int) ≤ (i : Int) := by omega
  have e6 : i ≤ n := by omega
  have e7 : (i : Int) ≤ (n : Int) := by omega
  have e8 : ((i : Int) + 1).toNat = i + 1 := by omega
  have e9 : ((n : Int) + 1).toNat = n + 1 := by omega
  have e10 : ¬ (cap = i + 1) := by omega
  have e11 : ¬ (cap = i) := by omega
  have e12 : (n : Int) + 1 ≤ (cap : Int) := by omega
  have e13 : (i : Int) + 1 ≤ (n : Int) + 1 := by omega
  have e14 : (i : Int) ≤ (n : Int) + 1 := by omega
  have e15 : (0 : Int) ≤ (n : Int) + 1 := by omega
  have hd1 : w.drew.ownsRow base 82 4 (.slice (some ⟨g, 0, none⟩) (n + 1) cap) (n + 1) (A ++ B ++ z) := ch.own_below ho1 (Below.refl _ _).drew
  obtain ⟨w3, hrun3, ⟨y, hyl, how3⟩, hs3, hb3, hbel3⟩ := own_room (w2 := w.drew) (na := i) (nb := n - i) 61 82 i0 Tryz.underlying61 hii hz1 hd1 hA hBl hzl (by omega) hone (some ⟨g, (i + 1) * 4, none⟩) (some ⟨g, i * 4, none⟩) (cap - (i + 1)) (cap - i) (fun _ => rfl) (fun _ => rfl) 3
  have hX3 : w3.heap[X]? = some (.cells #[.int .i64 k1, .int .i64 k2, .string ks, .int .i64 m] 82 (0, 0)) := (hb3 X hne).trans hX
  obtain ⟨w4, hrun4, how4, hs4, hb4, hbel4⟩ := own_write how3 61 i0 Tryz.underlying61 hii hz1 3 A y B [.int .i64 k1, .int .i64 k2, .string ks, .int .i64 m] i rfl hA (by rw [hyl]; rfl) rfl (n - i + 1) (cap - i) (by omega) ⟨X, 0, none⟩ 1 (fun j u hu => by
    match j, hu with
    | 0, hu => simp at hu; subst hu; rw [ch.addr_add]; simp [World.cell?, hX3]
    | 1, hu => simp at hu; subst hu; rw [ch.addr_add]; simp [World.cell?, hX3]
    | 2, hu => simp at hu; subst hu; rw [ch.addr_add]; simp [World.cell?, hX3]
    | 3, hu => simp at hu; subst hu; rw [ch.addr_add]; simp [World.cell?, hX3]
    | j + 4, hu => simp at hu) (by intro u hu; simp at hu; rcases hu with rfl | rfl | rfl | rfl <;> rfl)
  have HR3 : Hid (∀ l1 l2, l1 = n - i → l2 = n - i + 1 → (Builtin.copy_ #[61, 61] 3 #[.slice (some ⟨g, (i + 1) * 4, none⟩) l1 (cap - (i + 1)), .slice (some ⟨g, i * 4, none⟩) l2 (cap - i)]).run Tryz.prog w.drew = .ok (goInt (n - i : Nat)) w3) := fun l1 l2 e1 e2 => by rw [e1, e2]; exact hrun3
  have HR4 : Hid (∀ l2, l2 = n - i + 1 → (Builtin.copy_ #[61, 61] 3 #[.slice (some ⟨g, i * 4, none⟩) l2 (cap - i), .slice (some ⟨X, 0, none⟩) 1 1]).run Tryz.prog w3 = .ok (goInt 1) w4) := fun l2 e2 => by rw [e2]; exact hrun4
  have HF : Hid (w4.ownsRow base 82 4 (.slice (some ⟨g, 0, none⟩) (n + 1) cap) (n + 1) (A ++ [.int .i64 k1, .int .i64 k2, .string ks, .int .i64 m] ++ B) ∧ (∀ b, b ≠ g → w4.heap[b]? = w.heap[b]?) ∧ w4.heap.size = w.heap.size ∧ Below g w w4) := ⟨how4, fun b hb => (hb4 b hb).trans (hb3 b hb), hs4.trans hs3, ((Below.refl g w).drew.trans hbel3).trans hbel4⟩
  clear ho1 ho hg hcs cur hrun3 hrun4 how3 how4 hd1 hbel3 hbel4 hb3 hb4 hs3 hs4 hX3
  go_enter Tryz.func132, Tryz.ntmps132
  go_wp2_with (simp only [hov])
  go_region_law_o (refine step_copy_runI rfl _ _ 61 61 rfl (.slice (some ⟨g, (i + 1) * 4, none⟩) (n - i) (cap - (i + 1))) (.slice (some ⟨g, i * 4, none⟩) (n + 1 - i) (cap - i)) (by simp [Act.eval, Act.put]) (by simp [Act.eval, Act.put]) (HR3.out _ _ rfl (by omega)) ?_)
  have hr4 := HR4.out (n + 1 - i) (by omega)
  go_wp2
  go_ret
  exact ⟨rfl, HF.out⟩
set_option maxRecDepth 100000 in
set_option maxHeartbeats 4000000 in
theorem insG_shift (g n cap i : Nat) (A B : List Value) (base X : Nat) (ra : Option Addr) (rl rc : Nat) (m : Int) (ba : Option Addr) (bl bc : Nat) (w : World) (ho : w.ownsRow base 53 3 (.slice (some ⟨g, 0, none⟩) n cap) n (A ++ B)) (hA : A.length = i * 3) (hi : i < n) (hroom : n + 1 ≤ cap) (hX : w.heap[X]? = some (.cells #[.slice ra rl rc, .int .i64 m, .slice ba bl bc] 53 (0, 0))) (hne : X ≠ g) (hone : ∀ u ∈ B, u.oneCell' = true) :
    Calls Tryz.prog 85 #[.slice (some ⟨g, 0, none⟩) n cap, .int .i64 i, .slice (some ⟨X, 0, none⟩) 1 1] w fun e w' => e = .returned (.slice (some ⟨g, 0, none⟩) (n + 1) cap) ∧ w'.ownsRow base 53 3 (.slice (some ⟨g, 0, none⟩) (n + 1) cap) (n + 1) (A ++ [.slice ra rl rc, .int .i64 m, .slice ba bl bc] ++ B) ∧ (∀ b, b ≠ g → w'.heap[b]? = w.heap[b]?) ∧ w'.heap.size = w.heap.size ∧ Below g w w' := by
  obtain ⟨i0, hii, hz0, hz1, hz2⟩ := info_parts infoG
  have hcap : cap ≤ maxLen := by
    rcases ho.2 with ⟨hv, _⟩ | ⟨g', cap', cur, hv, h1, hg, h2, h3, h4, h5⟩
    · cases hv
    · cases hv; exact h3
  have hgh : ∃ cur, w.heap[g]? = some (.cells cur 53 (0, 0)) ∧ cur.size = cap * 3 := by
    rcases ho.2 with ⟨hv, _⟩ | ⟨g', cap', cur, hv, h1, hg, h2, h3, h4, h5⟩
    · cases hv
    · cases hv; exact ⟨cur, hg, h4⟩
  obtain ⟨cur, hg, hcs⟩ := hgh
  obtain ⟨z, hzl, ho1⟩ := own_more ho hroom
  have hBl : B.length = (n - i) * 3 := by
    have := ho.1
    rw [List.length_append, hA] at this
    omega
  have hsz : ∀ w, (Go.sizeOf 53).run Tryz.prog w = .ok 3 w := fun w => by simp [Go.sizeOf, Go.typeInfo, hii, hz1]
  have hov : ∀ lb cb, (callFunc 130 #[.slice (some ⟨X, 0, none⟩) 1 1, .slice (some ⟨g, (i + 1) * 3, none⟩) lb cb]).run Tryz.prog w = .ok (.value (.bool false)) w := fun lb cb => by
    rw [run_callFunc_extern Tryz.func130 (by kernel_rfl) (by kernel_rfl) (by kernel_rfl) (e := Extern.SlicesOverlaps.overlaps #[26, 26] #[4]) (by kernel_rfl),
      Lib.run_overlaps_apart w 26 4 53 Tryz.underlying26 3 hsz ⟨X, 0, none⟩ ⟨g, (i + 1) * 3, none⟩ 1 1 lb cb hne 53 53 3 (cap * 3) (by simp [World.shape?, hX]) (by simp [World.shape?, hg, hcs]) (by omega) (by simp [World.frozen?, hX]) (by simp [World.frozen?, hX])]
    rfl
  have mixed : Tryz.prog.follows .mixedOrders = true := by kernel_rfl
  have hw1 : IntKind.i64.wrap ((i : Int) + 1) = (i : Int) + 1 := by rw [IntKind.wrap_i64]; unfold maxLen at hcap; omega
  have hw2 : IntKind.i64.wrap ((n : Int) + 1) = (n : Int) + 1 := by rw [IntKind.wrap_i64]; unfold maxLen at hcap; omega
  have e1 : ¬ ((i : Int) = (n : Int)) := by omega
  have e2 : ((i : Int) == (n : Int)) = false := by simp; omega
  have e3 : ¬ ((n : Int) + 1 > (cap : Int)) := by omega
  have e4 : (0 : Int) ≤ (i : Int) + 1 := by omega
  have e5 : (0 : Int) ≤ (i : Int) := by omega
  have e6 : i ≤ n := by omega
  have e7 : (i : Int) ≤ (n : Int) := by omega
  have e8 : ((i : Int) + 1).toNat = i + 1 := by omega
  have e9 : ((n : Int) + 1).toNat = n + 1 := by omega
  have e10 : ¬ (cap = i + 1) := by omega
  have e11 : ¬ (cap = i) := by omega
  have e12 : (n : Int) + 1 ≤ (cap : Int) := by omega
  have e13 : (i : Int) + 1 ≤ (n : Int) + 1 := by omega
  have e14 : (i : Int) ≤ (n : Int) + 1 := by omega
  have e15 : (0 : Int) ≤ (n : Int) + 1 := by omega
  have hd1 : w.drew.ownsRow base 53 3 (.slice (some ⟨g, 0, none⟩) (n + 1) cap) (n + 1) (A ++ B ++ z) := ch.own_below ho1 (Below.refl _ _).drew
  obtain ⟨w3, hrun3, ⟨y, hyl, how3⟩, hs3, hb3, hbel3⟩ := own_room (w2 := w.drew) (na := i) (nb := n - i) 26 53 i0 Tryz.underlying26 hii hz1 hd1 hA hBl hzl (by omega) hone (some ⟨g, (i + 1) * 3, none⟩) (some ⟨g, i * 3, none⟩) (cap - (i + 1)) (cap - i) (fun _ => rfl) (fun _ => rfl) 3
  have hX3 : w3.heap[X]? = some (.cells #[.slice ra rl rc, .int .i64 m, .slice ba bl bc] 53 (0, 0)) := (hb3 X hne).trans hX
  obtain ⟨w4, hrun4, how4, hs4, hb4, hbel4⟩ := own_write how3 26 i0 Tryz.underlying26 hii hz1 3 A y B [.slice ra rl rc, .int .i64 m, .slice ba bl bc] i rfl hA (by rw [hyl]; rfl) rfl (n - i + 1) (cap - i) (by omega) ⟨X, 0, none⟩ 1 (fun j u hu => by
    match j, hu with
    | 0, hu => simp at hu; subst hu; rw [ch.addr_add]; simp [World.cell?, hX3]
    | 1, hu => simp at hu; subst hu; rw [ch.addr_add]; simp [World.cell?, hX3]
    | 2, hu => simp at hu; subst hu; rw [ch.addr_add]; simp [World.cell?, hX3]
    | j + 3, hu => simp at hu) (by intro u hu; simp at hu; rcases hu with rfl | rfl | rfl <;> rfl)
  have HR3 : Hid (∀ l1 l2, l1 = n - i → l2 = n - i + 1 → (Builtin.copy_ #[26, 26] 3 #[.slice (some ⟨g, (i + 1) * 3, none⟩) l1 (cap - (i + 1)), .slice (some ⟨g, i * 3, none⟩) l2 (cap - i)]).run Tryz.prog w.drew = .ok (goInt (n - i : Nat)) w3) := fun l1 l2 e1 e2 => by rw [e1, e2]; exact hrun3
  have HR4 : Hid (∀ l2, l2 = n - i + 1 → (Builtin.copy_ #[26, 26] 3 #[.slice (some ⟨g, i * 3, none⟩) l2 (cap - i), .slice (some ⟨X, 0, none⟩) 1 1]).run Tryz.prog w3 = .ok (goInt 1) w4) := fun l2 e2 => by rw [e2]; exact hrun4
  have HF : Hid (w4.ownsRow base 53 3 (.slice (some ⟨g, 0, none⟩) (n + 1) cap) (n + 1) (A ++ [.slice ra rl rc, .int .i64 m, .slice ba bl bc] ++ B) ∧ (∀ b, b ≠ g → w4.heap[b]? = w.heap[b]?) ∧ w4.heap.size = w.heap.size ∧ Below g w w4) := ⟨how4, fun b hb => (hb4 b hb).trans (hb3 b hb), hs4.trans hs3, ((Below.refl g w).drew.trans hbel3).trans hbel4⟩
  clear ho1 ho hg hcs cur hrun3 hrun4 how3 how4 hd1 hbel3 hbel4 hb3 hb4 hs3 hs4 hX3
  go_enter Tryz.func85, Tryz.ntmps85
  go_wp2_with (simp only [hov])
  go_region_law_o (refine step_copy_runI rfl _ _ 26 26 rfl (.slice (some ⟨g, (i + 1) * 3, none⟩) (n - i) (cap - (i + 1))) (.slice (some ⟨g, i * 3, none⟩) (n + 1 - i) (cap - i)) (by simp [Act.eval, Act.put]) (by simp [Act.eval, Act.put]) (HR3.out _ _ rfl (by omega)) ?_)
  have hr4 := HR4.out (n + 1 - i) (by omega)
  go_wp2
  go_ret
  exact ⟨rfl, HF.out⟩
end Go.Proofs.YtbfbgdinhiglaaaGreat.gr
/- Elements copied into a row of one's own; a new row with zeros behind. -/
namespace Go.Proofs.YtbfbgdinhiglaaaGreat.gr
open Go.ChangeShapes Go.WideShapes Go.ChangeAt Go.RowKit
open vl pl bt
set_option linter.unusedVariables false
set_option linter.unusedSimpArgs false
attribute [local go_sem] Oper.semAt_some
/-- cells written over within a row, k elements -/
theorem own_writeN {w : World} {base : Nat} {e : TypeId} {s n cap g : Nat} {xs : List Value} (h : w.ownsRow base e s (.slice (some ⟨g, 0, none⟩) n cap) n xs) (t : TypeId) (i0 : TypeInfo) (hu : Tryz.prog.underlying t = some (.slice e)) (hi : Tryz.prog.info? e = some i0) (hz1 : i0.size = s) (ty : TypeId)
    (A y B news : List Value) (na k : Nat) (hx : xs = A ++ y ++ B) (hA : A.length = na * s) (hy : y.length = news.length) (hnl : news.length = k * s) (dLen dCap sLen sCap : Nat) (hmin : Nat.min sLen dLen = k) (a : Addr) (hsrc : ∀ j v, news[j]? = some v → w.cell? (a.add j) = some v) (hone : ∀ v ∈ news, v.oneCell' = true) :
    ∃ w3, (Builtin.copy_ #[t, t] ty #[.slice (some ⟨g, na * s, none⟩) dLen dCap, .slice (some a) sLen sCap]).run Tryz.prog w = .ok (goInt k) w3 ∧ w3.ownsRow base e s (.slice (some ⟨g, 0, none⟩) n cap) n (A ++ news ++ B) ∧ w3.heap.size = w.heap.size ∧ (∀ b, b ≠ g → w3.heap[b]? = w.heap[b]?) ∧ Below g w w3 := by
  rcases h.2 with ⟨hv, _⟩ | ⟨g', cap', cur, hv, h1, hg, h2, h3, h4, h5⟩
  · cases hv
  · cases hv
    have hxl : xs.length = n * s := h.1
    have hm : n * s ≤ cap * s := Nat.mul_le_mul_right _ h2
    have hl : A.length + news.length + B.length = n * s := by rw [← hxl, hx]; simp only [List.length_append, hy]
    have hrun := run_copyS t e i0 s hu hi hz1 ty g (na * s) dLen dCap a sLen sCap cur e news hg (by rw [hmin]; exact hnl) hsrc (by rw [h4, ← hA]; omega) hone
    rw [hmin] at hrun
    obtain ⟨S, hS⟩ : ∃ S, cur.toList = A ++ y ++ B ++ S := ⟨cur.toList.drop (n * s), by
      have e := List.take_append_drop (n * s) cur.toList
      rw [h5, hx] at e
      exact e.symm⟩
    have hnew : cur.toList.take (na * s) ++ news ++ cur.toList.drop (na * s + news.length) = (A ++ news ++ B) ++ S := by
      rw [hS, ← hA, ← hy]
      have e1 : (A ++ y ++ B ++ S).take A.length = A := by rw [List.append_assoc, List.append_assoc]; exact List.take_left
      have e2 : (A ++ y ++ B ++ S).drop (A.length + y.length) = B ++ S := by
        rw [← List.length_append, List.append_assoc (A ++ y)]; exact List.drop_left
      rw [e1, e2]
      simp only [List.append_assoc]
    rw [hnew] at hrun
    have hsz : ((A ++ news ++ B) ++ S).length = cur.size := by
      have h9 : cur.size = cur.toList.length := Array.length_toList.symm
      rw [h9, hS]
      simp only [List.length_append, hy]
    refine ⟨_, hrun, ⟨by simp only [List.length_append]; exact hl, .inr ⟨g, cap, _, rfl, h1, setRow_heap w g cur _ _ _ hg, h2, h3, ?_, ?_⟩⟩, by simp [World.setRow], fun b hb => setRow_other w g b _ hb, ⟨rfl, rfl, rfl, by simp [World.setRow], fun k hk => setRow_other w g k _ (by omega)⟩⟩
    · rw [List.size_toArray, hsz]; exact h4
    · rw [show n * s = (A ++ news ++ B).length by simp only [List.length_append]; omega]
      exact List.take_left
/-- 's[:i]' and zeros behind, where there is no room: a row made anew -/
theorem grow_zeros {w : World} {base : Nat} {e : TypeId} {s n cap g : Nat} {xs : List Value} (h : w.ownsRow base e s (.slice (some ⟨g, 0, none⟩) n cap) n xs) (t : TypeId) (i0 : TypeInfo) (z : Value) (bytes : Nat) (hu : Tryz.prog.underlying t = some (.slice e)) (hi : Tryz.prog.info? e = some i0) (hz0 : i0.zero = some z) (hz1 : i0.size = s) (hz2 : i0.bytes = bytes) (hzs : z.cells.size = s) (ty : TypeId)
    (A B : List Value) (i : Nat) (hx : xs = A ++ B) (hA : A.length = i * s) (hin : i < n) (hroom : cap < n + 1) (hbig : (n + 1) * bytes ≤ 140737488355328) (hmx : n + 1 ≤ 4611686018427387904) (hs0 : 0 < s) :
    ∃ cap2 w2 Z, (Builtin.append_ #[t, 3] ty #[.slice (some ⟨g, 0, none⟩) i cap, .int .i64 ((n : Int) + 1 - (i : Int))]).run Tryz.prog w = .ok (.slice (some ⟨w.heap.size, 0, none⟩) (n + 1) cap2) w2 ∧ w2.ownsRow base e s (.slice (some ⟨w.heap.size, 0, none⟩) (n + 1) cap2) (n + 1) (A ++ Z) ∧ Z.length = (n + 1 - i) * s ∧ Below w.heap.size w w2 ∧ w2.heap.size = w.heap.size + 1 := by
  have hgl := ch.own_lt h (g := g) rfl
  have hik : i + (n + 1 - i) = n + 1 := by omega
  have hold : (Builtin.firstCells i0.size i (.slice (some ⟨g, 0, none⟩) i cap)).run Tryz.prog w.drew = .ok A.toArray w.drew := by
    rw [hz1]
    exact run_firstCells_some w.drew s i ⟨g, 0, none⟩ i cap A hA (fun j v hj => World.ownsRow.cells h (g := g) rfl j v (by
      have hjl : j < A.length := by
        rcases Nat.lt_or_ge j A.length with h | h
        · exact h
        · rw [List.getElem?_eq_none h] at hj; cases hj
      rw [hx, List.getElem?_append_left hjl]
      exact hj))
  have hb2 : (n + 1 - i) * bytes ≤ 281474976710656 := Nat.le_trans (Nat.mul_le_mul_right _ (by omega)) (Nat.le_trans hbig (by decide))
  have hrun := Lib.run_append_grow_zeros w t 3 ty e i0 z .i64 .i64 hu Tryz.underlying3 hi hz0 (some ⟨g, 0, none⟩) i cap A hold (n + 1 - i) (by omega) (by rw [hz1]; exact hs0) (by omega) (by omega) (by rw [hz2]; exact hb2) (by rw [hz2, hik]; exact growslice_fits hroom hbig)
  rw [hik] at hrun
  have hkk : (n : Int) + 1 - (i : Int) = ((n + 1 - i : Nat) : Int) := by omega
  rw [← hkk] at hrun
  have hge := grownCap_ge w (n + 1) cap e
  have hle := grownCap_le_maxLen w (n + 1) cap e (by unfold maxLen; omega)
  generalize grownCap w (n + 1) cap e = cap2 at hrun hge hle
  have hzl : ∀ k, (Builtin.zeroCells z.cells k).toList.length = k * s := fun k => by rw [Array.length_toList]; simp [Builtin.zeroCells, hzs]
  refine ⟨cap2, _, (Builtin.zeroCells z.cells (n + 1 - i)).toList, hrun, ⟨?_, .inr ⟨w.heap.size, cap2, A.toArray ++ Builtin.zeroCells z.cells (n + 1 - i) ++ Builtin.zeroCells z.cells (cap2 - (n + 1)), rfl, by omega, (by show (w.heap.push _)[w.heap.size]? = _; simp), hge, hle, ?_, ?_⟩⟩, hzl _, (Below.refl _ _).drew.alloc (Nat.le_refl _) _, by simp⟩
  · rw [List.length_append, hzl, hA, ← Nat.add_mul, hik]
  · have h1 := hzl (n + 1 - i)
    have h2 := hzl (cap2 - (n + 1))
    rw [Array.length_toList] at h1 h2
    rw [Array.size_append, Array.size_append, h1, h2, List.size_toArray, hA, ← Nat.add_mul, ← Nat.add_mul, hik, show n + 1 + (cap2 - (n + 1)) = cap2 by omega]
  · have h1 := hzl (n + 1 - i)
    rw [Array.toList_append, Array.toList_append, show (n + 1) * s = (A ++ (Builtin.zeroCells z.cells (n + 1 - i)).toList).length by rw [List.length_append, hzl, hA, ← Nat.add_mul, hik]]
    exact List.take_left
end Go.Proofs.YtbfbgdinhiglaaaGreat.gr
/- slices.Insert in between, where there is no room. -/
namespace Go.Proofs.YtbfbgdinhiglaaaGreat.gr
open Go.ChangeShapes Go.WideShapes Go.ChangeAt Go.RowKit
open vl pl bt
set_option linter.unusedVariables false
set_option linter.unusedSimpArgs false
attribute [local go_sem] Oper.semAt_some
set_option maxRecDepth 100000 in
set_option maxHeartbeats 4000000 in
theorem insT_grow (g n cap i : Nat) (A B : List Value) (base X : Nat) (k1 k2 : Int) (ks : ByteArray) (m : Int) (w : World) (ho : w.ownsRow base 82 4 (.slice (some ⟨g, 0, none⟩) n cap) n (A ++ B)) (hA : A.length = i * 4) (hi : i < n) (hroom : cap < n + 1) (hn : n ≤ 1073741824) (c0 : w.cell? ⟨X, 0, none⟩ = some (.int .i64 k1)) (c1 : w.cell? ⟨X, 1, none⟩ = some (.int .i64 k2)) (c2 : w.cell? ⟨X, 2, none⟩ = some (.string ks)) (c3 : w.cell? ⟨X, 3, none⟩ = some (.int .i64 m)) (hone : ∀ u ∈ B, u.oneCell' = true) :
    Calls Tryz.prog 132 #[.slice (some ⟨g, 0, none⟩) n cap, .int .i64 i, .slice (some ⟨X, 0, none⟩) 1 1] w fun e w' => ∃ cap2, e = .returned (.slice (some ⟨w.heap.size, 0, none⟩) (n + 1) cap2) ∧ w'.ownsRow base 82 4 (.slice (some ⟨w.heap.size, 0, none⟩) (n + 1) cap2) (n + 1) (A ++ [.int .i64 k1, .int .i64 k2, .string ks, .int .i64 m] ++ B) ∧ Below w.heap.size w w' := by
  obtain ⟨i0, hii, hz0, hz1, hz2⟩ := info_parts infoT
  have hgl := ch.own_lt ho (g := g) rfl
  have hnc : n ≤ cap := by
    rcases ho.2 with ⟨hv, _⟩ | ⟨g', cap', cur, hv, h1, hg, h2, h3, h4, h5⟩
    · cases hv
    · cases hv; exact h2
  have hBl : B.length = (n - i) * 4 := by
    have := ho.1
    rw [List.length_append, hA] at this
    omega
  have hsrcX : ∀ j u, [.int .i64 k1, .int .i64 k2, .string ks, .int .i64 m][j]? = some u → w.cell? ((⟨X, 0, none⟩ : Addr).add j) = some u := fun j u hu => by
    rw [ch.addr_add, Nat.zero_add]
    match j, hu with
    | 0, hu => simp at hu; subst hu; exact c0
    | 1, hu => simp at hu; subst hu; exact c1
    | 2, hu => simp at hu; subst hu; exact c2
    | 3, hu => simp at hu; subst hu; exact c3
    | j + 4, hu => simp at hu
  have hone1 : ∀ v ∈ ([.int .i64 k1, .int .i64 k2, .string ks, .int .i64 m] : List Value), v.oneCell' = true := by intro u hu; simp at hu; rcases hu with rfl | rfl | rfl | rfl <;> rfl
  obtain ⟨cap2, w2, Z, hrunA, hownA, hZl, hbA, hsA⟩ := grow_zeros ho 61 i0 (.agg #[.int .i64 0, .int .i64 0, .string ⟨#[]⟩, .int .i64 0]) 40 Tryz.underlying61 hii hz0 hz1 hz2 rfl 61 A B i rfl hA hi hroom (by omega) (by omega) (by decide)
  have hc2 : n + 1 ≤ cap2 ∧ cap2 ≤ maxLen := by
    rcases hownA.2 with ⟨hv, _⟩ | ⟨g', cap', cur, hv, h1, hg, h2, h3, h4, h5⟩
    · cases hv
    · cases hv; exact ⟨h2, h3⟩
  have hZ1 : (Z.take 4).length = 4 := by rw [List.length_take, hZl]; omega
  have hZ2 : (Z.drop 4).length = (n - i) * 4 := by rw [List.length_drop, hZl]; omega
  obtain ⟨w3, hrunB, hownB, hsB, hbB, hbelB⟩ := own_writeN hownA 61 i0 Tryz.underlying61 hii hz1 3 A (Z.take 4) (Z.drop 4) [.int .i64 k1, .int .i64 k2, .string ks, .int .i64 m] i 1 (by rw [List.append_assoc, List.take_append_drop]) hA (by rw [hZ1]; rfl) rfl (n + 1 - i) (cap2 - i) 1 1 (Nat.min_eq_left (by omega)) ⟨X, 0, none⟩ (fun j u hu => by
    have := hsrcX j u hu
    rw [ch.addr_add] at this ⊢
    exact cell_later hbA this) hone1
  have hbelow3 : Below w.heap.size w w3 := hbA.trans (hbelB.mono (Nat.le_refl _))
  have hownB' : w3.drew.ownsRow base 82 4 (.slice (some ⟨w.heap.size, 0, none⟩) (n + 1) cap2) (n + 1) (A ++ [.int .i64 k1, .int .i64 k2, .string ks, .int .i64 m] ++ Z.drop 4) := ch.own_below hownB (Below.refl _ _).drew
  obtain ⟨w4, hrunC, hownC, hsC, hbC, hbelC⟩ := own_writeN hownB' 61 i0 Tryz.underlying61 hii hz1 3 (A ++ [.int .i64 k1, .int .i64 k2, .string ks, .int .i64 m]) (Z.drop 4) [] B (i + 1) (n - i) (by rw [List.append_nil]) (by rw [List.length_append, hA, Nat.add_mul]; rfl) (by rw [hZ2, hBl]) hBl (n - i) (cap2 - (i + 1)) (n - i) (cap - i) (Nat.min_self _) ⟨g, i * 4, none⟩ (fun j u hu => by
    have hj : j < B.length := by
      rcases Nat.lt_or_ge j B.length with h | h
      · exact h
      · rw [List.getElem?_eq_none h] at hu; cases hu
    have h1 := World.ownsRow.cells ho (g := g) rfl (i * 4 + j) u (by rw [List.getElem?_append_right (by omega), hA, show i * 4 + j - i * 4 = j by omega]; exact hu)
    rw [ch.addr_add, Nat.zero_add] at h1
    rw [ch.add_at]
    exact cell_later (hbelow3.drew) h1) hone
  rw [List.append_nil] at hownC
  have HF : Hid (w4.ownsRow base 82 4 (.slice (some ⟨w.heap.size, 0, none⟩) (n + 1) cap2) (n + 1) (A ++ [.int .i64 k1, .int .i64 k2, .string ks, .int .i64 m] ++ B) ∧ Below w.heap.size w w4) := ⟨hownC, hbelow3.drew.trans (hbelC.mono (Nat.le_refl _))⟩
  have HRC : Hid ((Builtin.copy_ #[61, 61] 3 #[.slice (some ⟨w.heap.size, (i + 1) * 4, none⟩) (n - i) (cap2 - (i + 1)), .slice (some ⟨g, i * 4, none⟩) (n - i) (cap - i)]).run Tryz.prog w3.drew = .ok (goInt (n - i : Nat)) w4) := hrunC
  have mixed : Tryz.prog.follows .mixedOrders = true := by kernel_rfl
  have hmx := hc2.2
  have hc3 := hc2.1
  unfold maxLen at hmx
  have hw1 : IntKind.i64.wrap ((i : Int) + 1) = (i : Int) + 1 := by rw [IntKind.wrap_i64]; omega
  have hw2 : IntKind.i64.wrap ((n : Int) + 1) = (n : Int) + 1 := by rw [IntKind.wrap_i64]; omega
  have hw3 : IntKind.i64.wrap ((n : Int) + 1 - (i : Int)) = (n : Int) + 1 - (i : Int) := by rw [IntKind.wrap_i64]; omega
  have e1 : ¬ ((i : Int) = (n : Int)) := by omega
  have e2 : ((i : Int) == (n : Int)) = false := by simp; omega
  have e3 : (n : Int) + 1 > (cap : Int) := by omega
  have e4 : (0 : Int) ≤ (i : Int) + 1 := by omega
  have e5 : (0 : Int) ≤ (i : Int) := by omega
  have e6 : i ≤ n := by omega
  have e7 : (i : Int) ≤ (n : Int) := by omega
  have e8 : ((i : Int) + 1).toNat = i + 1 := by omega
  have e10 : ¬ (cap2 = i + 1) := by omega
  have e11 : ¬ (cap = i) := by omega
  have e12 : ¬ (cap2 = i) := by omega
  have e13 : (i : Int) + 1 ≤ (n : Int) + 1 := by omega
  have e14 : (i : Int) ≤ (n : Int) + 1 := by omega
  have e15 : (i : Int) ≤ (cap : Int) := by omega
  clear hrunC hownC hownB hownB' hownA hZ1 hZ2 hZl hbA hsA hsB hbB hbelB hsC hbC hbelC hbelow3 hc2 ho hone hone1 hsrcX c0 c1 c2 c3 hgl hii hz0 hz1 hz2
  go_enter Tryz.func132, Tryz.ntmps132
  go_wp2_with (first
    | (at_builtin; refine Lib.wpList_append_run _ rfl _ _ _ _ rfl _ _ rfl rfl _ _ hrunA ?_)
    | (at_builtin; refine wpList_copy_runI _ rfl _ _ 61 61 rfl (.slice (some ⟨w.heap.size, i * 4, none⟩) (n + 1 - i) (cap2 - i)) (.slice (some ⟨X, 0, none⟩) 1 1) rfl rfl hrunB ?_))
  go_region_law_o (refine step_copy_runI rfl _ _ 61 61 rfl (.slice (some ⟨w.heap.size, (i + 1) * 4, none⟩) (n - i) (cap2 - (i + 1))) (.slice (some ⟨g, i * 4, none⟩) (n - i) (cap - i)) (by simp [Act.eval, Act.put]) (by simp [Act.eval, Act.put]) HRC.out ?_)
  go_wp2
  go_ret
  exact ⟨cap2, rfl, HF.out⟩
set_option maxRecDepth 100000 in
set_option maxHeartbeats 4000000 in
theorem insG_grow (g n cap i : Nat) (A B : List Value) (base X : Nat) (ra : Option Addr) (rl rc : Nat) (m : Int) (ba : Option Addr) (bl bc : Nat) (w : World) (ho : w.ownsRow base 53 3 (.slice (some ⟨g, 0, none⟩) n cap) n (A ++ B)) (hA : A.length = i * 3) (hi : i < n) (hroom : cap < n + 1) (hn : n ≤ 1073741824) (c0 : w.cell? ⟨X, 0, none⟩ = some (.slice ra rl rc)) (c1 : w.cell? ⟨X, 1, none⟩ = some (.int .i64 m)) (c2 : w.cell? ⟨X, 2, none⟩ = some (.slice ba bl bc)) (hone : ∀ u ∈ B, u.oneCell' = true) :
    Calls Tryz.prog 85 #[.slice (some ⟨g, 0, none⟩) n cap, .int .i64 i, .slice (some ⟨X, 0, none⟩) 1 1] w fun e w' => ∃ cap2, e = .returned (.slice (some ⟨w.heap.size, 0, none⟩) (n + 1) cap2) ∧ w'.ownsRow base 53 3 (.slice (some ⟨w.heap.size, 0, none⟩) (n + 1) cap2) (n + 1) (A ++ [.slice ra rl rc, .int .i64 m, .slice ba bl bc] ++ B) ∧ Below w.heap.size w w' := by
  obtain ⟨i0, hii, hz0, hz1, hz2⟩ := info_parts infoG
  have hgl := ch.own_lt ho (g := g) rfl
  have hnc : n ≤ cap := by
    rcases ho.2 with ⟨hv, _⟩ | ⟨g', cap', cur, hv, h1, hg, h2, h3, h4, h5⟩
    · cases hv
    · cases hv; exact h2
  have hBl : B.length = (n - i) * 3 := by
    have := ho.1
    rw [List.length_append, hA] at this
    omega
  have hsrcX : ∀ j u, [.slice ra rl rc, .int .i64 m, .slice ba bl bc][j]? = some u → w.cell? ((⟨X, 0, none⟩ : Addr).add j) = some u := fun j u hu => by
    rw [ch.addr_add, Nat.zero_add]
    match j, hu with
    | 0, hu => simp at hu; subst hu; exact c0
    | 1, hu => simp at hu; subst hu; exact c1
    | 2, hu => simp at hu; subst hu; exact c2
    | j + 3, hu => simp at hu
  have hone1 : ∀ v ∈ ([.slice ra rl rc, .int .i64 m, .slice ba bl bc] : List Value), v.oneCell' = true := by intro u hu; simp at hu; rcases hu with rfl | rfl | rfl <;> rfl
  obtain ⟨cap2, w2, Z, hrunA, hownA, hZl, hbA, hsA⟩ := grow_zeros ho 26 i0 (.agg #[.slice none 0 0, .int .i64 0, .slice none 0 0]) 56 Tryz.underlying26 hii hz0 hz1 hz2 rfl 26 A B i rfl hA hi hroom (by omega) (by omega) (by decide)
  have hc2 : n + 1 ≤ cap2 ∧ cap2 ≤ maxLen := by
    rcases hownA.2 with ⟨hv, _⟩ | ⟨g', cap', cur, hv, h1, hg, h2, h3, h4, h5⟩
    · cases hv
    · cases hv; exact ⟨h2, h3⟩
  have hZ1 : (Z.take 3).length = 3 := by rw [List.length_take, hZl]; omega
  have hZ2 : (Z.drop 3).length = (n - i) * 3 := by rw [List.length_drop, hZl]; omega
  obtain ⟨w3, hrunB, hownB, hsB, hbB, hbelB⟩ := own_writeN hownA 26 i0 Tryz.underlying26 hii hz1 3 A (Z.take 3) (Z.drop 3) [.slice ra rl rc, .int .i64 m, .slice ba bl bc] i 1 (by rw [List.append_assoc, List.take_append_drop]) hA (by rw [hZ1]; rfl) rfl (n + 1 - i) (cap2 - i) 1 1 (Nat.min_eq_left (by omega)) ⟨X, 0, none⟩ (fun j u hu => by
    have := hsrcX j u hu
    rw [ch.addr_add] at this ⊢
    exact cell_later hbA this) hone1
  have hbelow3 : Below w.heap.size w w3 := hbA.trans (hbelB.mono (Nat.le_refl _))
  have hownB' : w3.drew.ownsRow base 53 3 (.slice (some ⟨w.heap.size, 0, none⟩) (n + 1) cap2) (n + 1) (A ++ [.slice ra rl rc, .int .i64 m, .slice ba bl bc] ++ Z.drop 3) := ch.own_below hownB (Below.refl _ _).drew
  obtain ⟨w4, hrunC, hownC, hsC, hbC, hbelC⟩ := own_writeN hownB' 26 i0 Tryz.underlying26 hii hz1 3 (A ++ [.slice ra rl rc, .int .i64 m, .slice ba bl bc]) (Z.drop 3) [] B (i + 1) (n - i) (by rw [List.append_nil]) (by rw [List.length_append, hA, Nat.add_mul]; rfl) (by rw [hZ2, hBl]) hBl (n - i) (cap2 - (i + 1)) (n - i) (cap - i) (Nat.min_self _) ⟨g, i * 3, none⟩ (fun j u hu => by
    have hj : j < B.length := by
      rcases Nat.lt_or_ge j B.length with h | h
      · exact h
      · rw [List.getElem?_eq_none h] at hu; cases hu
    have h1 := World.ownsRow.cells ho (g := g) rfl (i * 3 + j) u (by rw [List.getElem?_append_right (by omega), hA, show i * 3 + j - i * 3 = j by omega]; exact hu)
    rw [ch.addr_add, Nat.zero_add] at h1
    rw [ch.add_at]
    exact cell_later (hbelow3.drew) h1) hone
  rw [List.append_nil] at hownC
  have HF : Hid (w4.ownsRow base 53 3 (.slice (some ⟨w.heap.size, 0, none⟩) (n + 1) cap2) (n + 1) (A ++ [.slice ra rl rc, .int .i64 m, .slice ba bl bc] ++ B) ∧ Below w.heap.size w w4) := ⟨hownC, hbelow3.drew.trans (hbelC.mono (Nat.le_refl _))⟩
  have HRC : Hid ((Builtin.copy_ #[26, 26] 3 #[.slice (some ⟨w.heap.size, (i + 1) * 3, none⟩) (n - i) (cap2 - (i + 1)), .slice (some ⟨g, i * 3, none⟩) (n - i) (cap - i)]).run Tryz.prog w3.drew = .ok (goInt (n - i : Nat)) w4) := hrunC
  have mixed : Tryz.prog.follows .mixedOrders = true := by kernel_rfl
  have hmx := hc2.2
  have hc3 := hc2.1
  unfold maxLen at hmx
  have hw1 : IntKind.i64.wrap ((i : Int) + 1) = (i : Int) + 1 := by rw [IntKind.wrap_i64]; omega
  have hw2 : IntKind.i64.wrap ((n : Int) + 1) = (n : Int) + 1 := by rw [IntKind.wrap_i64]; omega
  have hw3 : IntKind.i64.wrap ((n : Int) + 1 - (i : Int)) = (n : Int) + 1 - (i : Int) := by rw [IntKind.wrap_i64]; omega
  have e1 : ¬ ((i : Int) = (n : Int)) := by omega
  have e2 : ((i : Int) == (n : Int)) = false := by simp; omega
  have e3 : (n : Int) + 1 > (cap : Int) := by omega
  have e4 : (0 : Int) ≤ (i : Int) + 1 := by omega
  have e5 : (0 : Int) ≤ (i : Int) := by omega
  have e6 : i ≤ n := by omega
  have e7 : (i : Int) ≤ (n : Int) := by omega
  have e8 : ((i : Int) + 1).toNat = i + 1 := by omega
  have e10 : ¬ (cap2 = i + 1) := by omega
  have e11 : ¬ (cap = i) := by omega
  have e12 : ¬ (cap2 = i) := by omega
  have e13 : (i : Int) + 1 ≤ (n : Int) + 1 := by omega
  have e14 : (i : Int) ≤ (n : Int) + 1 := by omega
  have e15 : (i : Int) ≤ (cap : Int) := by omega
  clear hrunC hownC hownB hownB' hownA hZ1 hZ2 hZl hbA hsA hsB hbB hbelB hsC hbC hbelC hbelow3 hc2 ho hone hone1 hsrcX c0 c1 c2 hgl hii hz0 hz1 hz2
  go_enter Tryz.func85, Tryz.ntmps85
  go_wp2_with (first
    | (at_builtin; refine Lib.wpList_append_run _ rfl _ _ _ _ rfl _ _ rfl rfl _ _ hrunA ?_)
    | (at_builtin; refine wpList_copy_runI _ rfl _ _ 26 26 rfl (.slice (some ⟨w.heap.size, i * 3, none⟩) (n + 1 - i) (cap2 - i)) (.slice (some ⟨X, 0, none⟩) 1 1) rfl rfl hrunB ?_))
  go_region_law_o (refine step_copy_runI rfl _ _ 26 26 rfl (.slice (some ⟨w.heap.size, (i + 1) * 3, none⟩) (n - i) (cap2 - (i + 1))) (.slice (some ⟨g, i * 3, none⟩) (n - i) (cap - i)) (by simp [Act.eval, Act.put]) (by simp [Act.eval, Act.put]) HRC.out ?_)
  go_wp2
  go_ret
  exact ⟨cap2, rfl, HF.out⟩
end Go.Proofs.YtbfbgdinhiglaaaGreat.gr
