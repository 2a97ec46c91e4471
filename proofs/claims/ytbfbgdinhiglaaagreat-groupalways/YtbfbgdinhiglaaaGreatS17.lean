import Derived.Test.YtbfbgdinhiglaaaGreatS16
import Derived.Test.YtbfbgdinhiglaaaGreatMgChgB
import Derived.Test.YtbfbgdinhiglaaaGreatMgPlnB
import Derived.Test.YtbfbgdinhiglaaaGreatS15
import Derived.Test.YtbfbgdinhiglaaaGreatS5
/- Groups of one's own: a slice of groups, each with its row, its bags and their tallies. -/
namespace Go.Proofs.YtbfbgdinhiglaaaGreat.gr
open Go.ChangeShapes Go.WideShapes Go.ChangeAt Go.RowKit
open vl pl bt
set_option linter.unusedVariables false
set_option linter.unusedSimpArgs false
structure GO where
  rv : Value
  row : List Cel
  n : Int
  bv : Value
  bs : List (Value × List Tal)
instance : Inhabited GO := ⟨⟨.slice none 0 0, [], 0, .slice none 0 0, []⟩⟩
def GO.cells (x : GO) : List Value := [x.rv, .int .i64 x.n, x.bv]
def bagO (b : Value × List Tal) : Own1 := ⟨b.1, 82, 4, b.2.length, talCells b.2⟩
def GO.bagsO (x : GO) : Own1 := ⟨x.bv, 61, 1, x.bs.length, x.bs.map (·.1)⟩
def GO.rowO (x : GO) : Own1 := ⟨x.rv, 68, 3, x.row.length, celCells x.row⟩
def GO.all (x : GO) : List Own1 := x.rowO :: x.bagsO :: x.bs.map bagO
def gcells (L : List GO) : List Value := L.flatMap GO.cells
def headO (v : Value) (L : List GO) : Own1 := ⟨v, 53, 3, L.length, gcells L⟩
def OG (w : World) (base : Nat) (v : Value) (L : List GO) : Prop := Est w base (headO v L :: L.flatMap GO.all)
def GO.grp (x : GO) : Grp := ⟨x.row, x.n, x.bs.map (·.2)⟩
def adOf : Value → Option Addr
  | .slice a _ _ => a
  | _ => none
def cpOf : Value → Nat
  | .slice _ _ c => c
  | _ => 0
def GO.gx (x : GO) : GX := ⟨adOf x.rv, cpOf x.rv, adOf x.bv, cpOf x.bv, x.bs.map fun b => (adOf b.1, b.2.length, cpOf b.1)⟩
theorem own_is {w : World} {base : Nat} {e : TypeId} {s : Nat} {v : Value} {n : Nat} {xs : List Value} (h : w.ownsRow base e s v n xs) : v = .slice (adOf v) n (cpOf v) := by
  rcases h.2 with ⟨hv, h0⟩ | ⟨g, cap, cur, hv, _⟩
  · rw [hv, h0]; rfl
  · rw [hv]; rfl
theorem gcells_app (A B : List GO) : gcells (A ++ B) = gcells A ++ gcells B := by unfold gcells; rw [List.flatMap_append]
theorem gcells_len : ∀ (L : List GO), (gcells L).length = L.length * 3
  | [] => rfl
  | x :: L => by
    have ih := gcells_len L
    have e : gcells (x :: L) = x.rv :: .int .i64 x.n :: x.bv :: gcells L := rfl
    rw [e]
    simp only [List.length_cons, ih]
    omega
theorem gcells_at : ∀ (L : List GO) (i : Nat), i < L.length → (gcells L)[i * 3]? = some (L.getD i default).rv ∧ (gcells L)[i * 3 + 1]? = some (.int .i64 (L.getD i default).n) ∧ (gcells L)[i * 3 + 2]? = some (L.getD i default).bv
  | [], i, h => absurd h (Nat.not_lt_zero i)
  | x :: L, 0, _ => ⟨rfl, rfl, rfl⟩
  | x :: L, i + 1, h => by
    have ih := gcells_at L i (by simpa using h)
    have e : gcells (x :: L) = x.rv :: .int .i64 x.n :: x.bv :: gcells L := rfl
    rw [e, show (i + 1) * 3 = i * 3 + 1 + 1 + 1 by omega, show i * 3 + 1 + 1 + 1 + 1 = (i * 3 + 1) + 1 + 1 + 1 by omega, show i * 3 + 1 + 1 + 1 + 2 = (i * 3 + 2) + 1 + 1 + 1 by omega]
    simpa using ih
theorem perm_of {E E' : List Own1} (h : ∀ [DecidableEq Own1] (a : Own1), E.count a = E'.count a) : E.Perm E' := by
  haveI : DecidableEq Own1 := fun a b => Classical.propDecidable (a = b)
  exact List.perm_iff_count.2 (fun a => h a)
theorem OG.parts {w : World} {base : Nat} {v : Value} {L : List GO} (h : OG w base v L) {x : GO} (hx : x ∈ L) : ownV w base x.rv x.row ∧ w.ownsRow base 61 1 x.bv x.bs.length (x.bs.map (·.1)) ∧ ∀ b ∈ x.bs, ownT w base b.1 b.2 := by
  have hm : ∀ y ∈ x.all, y.here w base := fun y hy => h.own y (List.mem_cons_of_mem _ (List.mem_flatMap.2 ⟨x, hx, hy⟩))
  exact ⟨hm _ (List.mem_cons_self ..), hm _ (List.mem_cons_of_mem _ (List.mem_cons_self ..)), fun b hb => hm (bagO b) (List.mem_cons_of_mem _ (List.mem_cons_of_mem _ (List.mem_map.2 ⟨b, hb, rfl⟩)))⟩
theorem OG.head {w : World} {base : Nat} {v : Value} {L : List GO} (h : OG w base v L) : w.ownsRow base 53 3 v L.length (gcells L) := h.own _ (List.mem_cons_self ..)
theorem OG.below {w w' : World} {base : Nat} {v : Value} {L : List GO} (h : OG w base v L) (hb : Below w.heap.size w w') : OG w' base v L := Est_below h hb
theorem getD_mapG (L : List GO) (i : Nat) (hi : i < L.length) : (L.map GO.gx).getD i default = (L.getD i default).gx ∧ (L.map GO.grp).getD i default = (L.getD i default).grp := by
  simp [List.getD_eq_getElem?_getD, hi]
theorem OG.at {w : World} {base : Nat} {ad : Option Addr} {cap : Nat} {L : List GO} (h : OG w base (.slice ad L.length cap) L) : gsAt w ad (L.map GO.gx) (L.map GO.grp) := by
  have hh := h.head
  refine ⟨by simp, fun i hi => ?_, fun i hi => ?_⟩
  · have hi2 : i < L.length := by simpa using hi
    have hm : L.getD i default ∈ L := by rw [List.getD_eq_getElem?_getD, List.getElem?_eq_getElem hi2]; exact List.getElem_mem hi2
    obtain ⟨p1, p2, p3⟩ := h.parts hm
    obtain ⟨e1, e2⟩ := getD_mapG L i hi2
    rw [e1, e2]
    rcases hh.2 with ⟨hv, h0⟩ | ⟨g, cap', cur, hv, h1, hg, h2, h3, h4, h5⟩
    · omega
    · cases hv
      obtain ⟨z1, z2, z3⟩ := gcells_at L i hi2
      have c1 := World.ownsRow.cells hh (g := g) rfl _ _ z1
      have c2 := World.ownsRow.cells hh (g := g) rfl _ _ z2
      have c3 := World.ownsRow.cells hh (g := g) rfl _ _ z3
      rw [ch.addr_add] at c1 c2 c3
      refine ⟨g, 0, rfl, ?_, ?_, ?_⟩
      · rw [c1]; congr 1; exact own_is p1
      · exact c2
      · rw [Nat.add_assoc, c3, own_is p2]; simp [GO.grp, GO.gx]
  · have hi2 : i < L.length := by simpa using hi
    have hm : L.getD i default ∈ L := by rw [List.getD_eq_getElem?_getD, List.getElem?_eq_getElem hi2]; exact List.getElem_mem hi2
    obtain ⟨p1, p2, p3⟩ := h.parts hm
    obtain ⟨e1, e2⟩ := getD_mapG L i hi2
    rw [e1, e2]
    generalize L.getD i default = x at p1 p2 p3
    refine ⟨?_, fun j hj => ?_, by simp [GO.gx, GO.grp], fun j hj => ?_, fun j hj => ?_⟩
    · have := own_is p1
      rw [this] at p1
      exact vl.ownV_row p1
    · have hj2 : j < x.bs.length := by simpa [GO.gx] using hj
      have hmb : x.bs[j] ∈ x.bs := List.getElem_mem hj2
      have e := own_is (p3 _ hmb)
      rcases p2.2 with ⟨hv, h0⟩ | ⟨g2, cap2, cur2, hv, h1, hg, h2, h3, h4, h5⟩
      · omega
      · have hb : x.bv.ownBlock = some g2 := by rw [hv]; rfl
        have c1 := World.ownsRow.cells p2 hb j x.bs[j].1 (by simp [hj2])
        rw [ch.addr_add] at c1
        refine ⟨g2, 0, by simp [GO.gx, hv, adOf], ?_⟩
        rw [c1, e]
        simp [GO.gx, List.getD_eq_getElem?_getD, hj2, adOf, cpOf]
    · have hj2 : j < x.bs.length := by simpa [GO.grp] using hj
      simp [GO.gx, GO.grp, List.getD_eq_getElem?_getD, hj2]
    · have hj2 : j < x.bs.length := by simpa [GO.grp] using hj
      have hmb : x.bs[j] ∈ x.bs := List.getElem_mem hj2
      have ho := p3 _ hmb
      have e := own_is ho
      rw [e] at ho
      have := (ownT_at ho).1
      simpa [GO.gx, GO.grp, List.getD_eq_getElem?_getD, hj2, adOf] using this
end Go.Proofs.YtbfbgdinhiglaaaGreat.gr
/- What is changed in groups of one's own: a number, a bag, a tally. -/
namespace Go.Proofs.YtbfbgdinhiglaaaGreat.gr
open Go.ChangeShapes Go.WideShapes Go.ChangeAt Go.RowKit
open vl pl bt
set_option linter.unusedVariables false
set_option linter.unusedSimpArgs false
theorem set_mid {α : Type} (A B : List α) (x y : α) : (A ++ x :: B).set A.length y = A ++ y :: B := by
  rw [List.set_append_right _ _ (Nat.le_refl _), Nat.sub_self]; rfl
theorem gcells_set (A B : List GO) (x : GO) (M : Int) : (gcells (A ++ x :: B)).set (A.length * 3 + 1) (.int .i64 M) = gcells (A ++ { x with n := M } :: B) := by
  rw [gcells_app, gcells_app, List.set_append_right _ _ (by rw [gcells_len]; omega), gcells_len, show A.length * 3 + 1 - A.length * 3 = 1 by omega]
  rfl
/-- a group's number is stored -/
theorem OG.putN {w : World} {base g cap : Nat} {A B : List GO} {x : GO} (h : OG w base (.slice (some ⟨g, 0, none⟩) (A ++ x :: B).length cap) (A ++ x :: B)) (M : Int) :
    OG (w.setCell ⟨g, A.length * 3 + 1, none⟩ (.int .i64 M)) base (.slice (some ⟨g, 0, none⟩) (A ++ { x with n := M } :: B).length cap) (A ++ { x with n := M } :: B) := by
  have h1 := Est_set (j := A.length * 3 + 1) h (by rw [List.length_append, List.length_cons]; omega) (.int .i64 M)
  rw [gcells_set] at h1
  have e1 : (A ++ x :: B).length = (A ++ { x with n := M } :: B).length := by simp
  have e2 : (A ++ x :: B).flatMap GO.all = (A ++ { x with n := M } :: B).flatMap GO.all := by simp [GO.all, GO.rowO, GO.bagsO]
  unfold OG headO
  rw [← e1, ← e2]
  exact h1
theorem all_perm (v : Value) (A B : List GO) (x : GO) (C D : List (Value × List Tal)) (b : Value × List Tal) (hb : x.bs = C ++ b :: D) (H : Own1) :
    (H :: (A ++ x :: B).flatMap GO.all).Perm (bagO b :: x.bagsO :: H :: (A.flatMap GO.all ++ x.rowO :: (C.map bagO ++ D.map bagO) ++ B.flatMap GO.all)) := by
  refine perm_of (fun a => ?_)
  simp only [List.flatMap_append, List.flatMap_cons, GO.all, hb, List.map_append, List.map_cons, List.count_append, List.count_cons]
  omega
/-- a bag is another, and its header is stored -/
theorem OG.putB {w w2 : World} {base bb nb bc : Nat} {v : Value} {A B : List GO} {x : GO} {C D : List (Value × List Tal)} {b b' : Value × List Tal} (h : OG w base v (A ++ x :: B)) (hb : x.bs = C ++ b :: D) (hbv : x.bv = .slice (some ⟨bb, 0, none⟩) nb bc)
    (hs : w.heap.size ≤ w2.heap.size) (hblk : ∀ k, k < w.heap.size → b.1.ownBlock ≠ some k → w2.heap[k]? = w.heap[k]?) (hx : ownT w2 base b'.1 b'.2) (hat : ∀ g, b'.1.ownBlock = some g → b.1.ownBlock = some g ∨ w.heap.size ≤ g) :
    OG (w2.setCell ⟨bb, C.length, none⟩ b'.1) base v (A ++ { x with bs := C ++ b' :: D } :: B) := by
  have hp := Est_perm h (all_perm v A B x C D b hb (headO v (A ++ x :: B)))
  have h1 := Est_frame (x' := bagO b') hp hs hblk hx hat
  have h2 := Est_perm h1 (List.Perm.swap _ _ _)
  have hbl := (h.parts (x := x) (by simp)).2.1
  have hnb : nb = x.bs.length := by
    have e := own_is hbl
    rw [hbv] at e
    injection e
  unfold GO.bagsO at h2
  rw [hbv] at h2
  subst hnb
  have h3 := Est_set (j := C.length) h2 (by rw [hb]; simp) b'.1
  have e1 : (x.bs.map (·.1)).set C.length b'.1 = (C ++ b' :: D).map (·.1) := by
    rw [hb, List.map_append, List.map_cons, List.map_append, List.map_cons]
    have := set_mid (C.map (·.1)) (D.map (·.1)) b.1 b'.1
    rw [List.length_map] at this
    exact this
  rw [e1] at h3
  refine Est_perm h3 ?_
  refine perm_of (fun a => ?_)
  have e2 : headO v (A ++ { x with bs := C ++ b' :: D } :: B) = headO v (A ++ x :: B) := by
    unfold headO
    rw [gcells_app, gcells_app]
    simp [gcells, GO.cells]
  rw [e2]
  have e3 : (⟨.slice (some ⟨bb, 0, none⟩) x.bs.length bc, 61, 1, x.bs.length, (C ++ b' :: D).map (·.1)⟩ : Own1) = GO.bagsO { x with bs := C ++ b' :: D } := by
    unfold GO.bagsO
    have e4 : x.bs.length = (C ++ b' :: D).length := by rw [hb]; simp
    dsimp only
    rw [hbv, e4]
  rw [e3]
  have e5 : GO.rowO { x with bs := C ++ b' :: D } = x.rowO := rfl
  simp only [List.flatMap_append, List.flatMap_cons, GO.all, List.map_append, List.map_cons, List.count_append, List.count_cons, e5]
  omega
theorem tal_set : ∀ (l : List Tal) (k : Nat) (M : Int), k < l.length → (talCells l).set (k * 4 + 3) (.int .i64 M) = talCells (l.set k ((l.getD k default).1, M))
  | [], k, M, h => absurd h (Nat.not_lt_zero k)
  | t :: l, 0, M, _ => rfl
  | t :: l, k + 1, M, h => by
    have ih := tal_set l k M (by simpa using h)
    have e : ∀ (t : Tal) (l : List Tal), talCells (t :: l) = .int .i64 t.1.k :: .int .i64 t.1.n :: .string t.1.s :: .int .i64 t.2 :: talCells l := fun _ _ => rfl
    rw [e, show (k + 1) * 4 + 3 = (k * 4 + 3) + 1 + 1 + 1 + 1 by omega]
    simp only [List.set_cons_succ, ih, List.getD_cons_succ, e]
/-- a tally's number is stored -/
theorem OG.putT {w : World} {base tb n cap : Nat} {v : Value} {A B : List GO} {x : GO} {C D : List (Value × List Tal)} {l : List Tal} (h : OG w base v (A ++ x :: B)) (hb : x.bs = C ++ (.slice (some ⟨tb, 0, none⟩) n cap, l) :: D) (k : Nat) (hk : k < l.length) (M : Int) :
    OG (w.setCell ⟨tb, k * 4 + 3, none⟩ (.int .i64 M)) base v (A ++ { x with bs := C ++ (.slice (some ⟨tb, 0, none⟩) n cap, l.set k ((l.getD k default).1, M)) :: D } :: B) := by
  have hp := Est_perm h (all_perm v A B x C D _ hb (headO v (A ++ x :: B)))
  have ho := (h.parts (x := x) (by simp)).2.2 (.slice (some ⟨tb, 0, none⟩) n cap, l) (by rw [hb]; simp)
  have hn : n = l.length := by
    have e := own_is ho
    injection e
  subst hn
  have hp2 : Est w base ((⟨.slice (some ⟨tb, 0, none⟩) l.length cap, 82, 4, l.length, talCells l⟩ : Own1) :: x.bagsO :: headO v (A ++ x :: B) :: (A.flatMap GO.all ++ x.rowO :: (C.map bagO ++ D.map bagO) ++ B.flatMap GO.all)) := hp
  have h1 := Est_set (j := k * 4 + 3) hp2 (by omega) (.int .i64 M)
  rw [tal_set l k M hk] at h1
  refine Est_perm h1 ?_
  refine perm_of (fun a => ?_)
  have e2 : headO v (A ++ { x with bs := C ++ (.slice (some ⟨tb, 0, none⟩) l.length cap, l.set k ((l.getD k default).1, M)) :: D } :: B) = headO v (A ++ x :: B) := by
    unfold headO
    rw [gcells_app, gcells_app]
    simp [gcells, GO.cells]
  have e3 : GO.bagsO { x with bs := C ++ (.slice (some ⟨tb, 0, none⟩) l.length cap, l.set k ((l.getD k default).1, M)) :: D } = x.bagsO := by
    unfold GO.bagsO
    dsimp only
    rw [hb]
    simp
  have e5 : GO.rowO { x with bs := C ++ (.slice (some ⟨tb, 0, none⟩) l.length cap, l.set k ((l.getD k default).1, M)) :: D } = x.rowO := rfl
  have e6 : bagO (.slice (some ⟨tb, 0, none⟩) l.length cap, l.set k ((l.getD k default).1, M)) = (⟨.slice (some ⟨tb, 0, none⟩) l.length cap, 82, 4, l.length, talCells (l.set k ((l.getD k default).1, M))⟩ : Own1) := by simp [bagO]
  rw [e2]
  simp only [List.flatMap_append, List.flatMap_cons, GO.all, List.map_append, List.map_cons, List.count_append, List.count_cons, e3, e5, e6]
  omega
end Go.Proofs.YtbfbgdinhiglaaaGreat.gr
/- One more, or one less, of a cell in a bag; where it stands. -/
namespace Go.Proofs.YtbfbgdinhiglaaaGreat.gr
open Go.ChangeShapes Go.WideShapes Go.ChangeAt Go.RowKit
open vl pl bt
set_option linter.unusedVariables false
set_option linter.unusedSimpArgs false
def idxT (l : List Tal) (c : Cel) : Nat := (l.takeWhile fun t => decide (cmpC t.1 c < 0)).length
def hasT (l : List Tal) (c : Cel) : Bool := decide (idxT l c < l.length) && decide (cmpC (l.getD (idxT l c) default).1 c = 0)
def addT (l : List Tal) (c : Cel) : List Tal := if hasT l c = true then l.set (idxT l c) ((l.getD (idxT l c) default).1, (l.getD (idxT l c) default).2 + 1) else l.take (idxT l c) ++ (c, 1) :: l.drop (idxT l c)
theorem idx_le (l : List Tal) (c : Cel) : idxT l c ≤ l.length := by
  unfold idxT
  have := List.IsPrefix.length_le (List.takeWhile_prefix (l := l) (fun t => decide (cmpC t.1 c < 0)))
  exact this
theorem idx_is {l : List Tal} {c : Cel} : ∀ {i : Nat}, i ≤ l.length → (∀ t, t < i → cmpC (l.getD t default).1 c < 0) → (∀ t, i ≤ t → t < l.length → 0 ≤ cmpC (l.getD t default).1 c) → i = idxT l c := by
  induction l with
  | nil => intro i h _ _; have h0 : i = 0 := by simpa using h
           rw [h0]; rfl
  | cons a l ih =>
    intro i hi h1 h2
    cases i with
    | zero =>
      have := h2 0 (Nat.le_refl _) (by simp)
      have h3 : ¬ (cmpC a.1 c < 0) := by simpa using this
      unfold idxT
      rw [List.takeWhile_cons]
      simp [h3]
    | succ i =>
      have h0 : cmpC a.1 c < 0 := by simpa using h1 0 (by omega)
      have := ih (i := i) (by simpa using hi) (fun t ht => by simpa using h1 (t + 1) (by omega)) (fun t ht hl => by simpa using h2 (t + 1) (by omega) (by simpa using hl))
      rw [this]
      unfold idxT
      rw [List.takeWhile_cons]
      simp [h0]
theorem find_is (a : Option Addr) (cap : Nat) (l : List Tal) (c : Cel) (w : World) (hl : l.length < 4611686018427387904) (ha : bagAt w a l) (hm : ∀ i j, i ≤ j → j < l.length → cmpC (l.getD j default).1 c < 0 → cmpC (l.getD i default).1 c < 0) :
    Calls Tryz.prog 128 #[.slice a l.length cap, .agg #[.int .i64 c.k, .int .i64 c.n, .string c.s]] w fun e w' => e = .returned (.tuple #[.int .i64 (idxT l c), .bool (hasT l c)]) ∧ Below w.heap.size w w' := by
  refine (find_any a cap l c w hl ha hm).mono ?_
  rintro e w' ⟨⟨i, hi, rfl, h1, h2⟩, hb⟩
  have := idx_is hi h1 h2
  subst this
  exact ⟨rfl, hb⟩
theorem talCells_app2 (A B : List Tal) : talCells (A ++ B) = talCells A ++ talCells B := by unfold talCells; rw [List.flatMap_append]
theorem tal_one : ∀ (l : List Tal), ∀ u ∈ talCells l, u.oneCell' = true := fun l u hu => by
  unfold talCells at hu
  obtain ⟨t, _, ht⟩ := List.mem_flatMap.1 hu
  simp at ht
  rcases ht with rfl | rfl | rfl | rfl <;> rfl
theorem talLen : ∀ (L : List Tal), (talCells L).length = L.length * 4
  | [] => rfl
  | a :: L => by
    have ih := talLen L
    have e1 : talCells (a :: L) = .int .i64 a.1.k :: .int .i64 a.1.n :: .string a.1.s :: .int .i64 a.2 :: talCells L := rfl
    rw [e1]
    simp only [List.length_cons, ih]
    omega
/-- a tally put into a bag of one's own, of none yet -/
theorem insT_bag (v : Value) (l : List Tal) (c : Cel) (i base X : Nat) (w : World) (ho : ownT w base v l) (hi : i ≤ l.length) (hn : l.length ≤ 1073741824) (hb : base ≤ w.heap.size) (hX : w.heap[X]? = some (.cells #[.int .i64 c.k, .int .i64 c.n, .string c.s, .int .i64 0] 82 (0, 0))) (hne : some X ≠ v.ownBlock) :
    Calls Tryz.prog 132 #[v, .int .i64 i, .slice (some ⟨X, 0, none⟩) 1 1] w fun e w' => ∃ g cap2, e = .returned (.slice (some ⟨g, 0, none⟩) (l.length + 1) cap2) ∧ ownT w' base (.slice (some ⟨g, 0, none⟩) (l.length + 1) cap2) (l.take i ++ (c, 0) :: l.drop i) ∧ w.heap.size ≤ w'.heap.size ∧ (∀ b, b < w.heap.size → v.ownBlock ≠ some b → w'.heap[b]? = w.heap[b]?) ∧ (v.ownBlock = some g ∨ w.heap.size ≤ g) ∧ Below base w w' := by
  have e := own_is ho
  rw [e] at ho hne ⊢
  have h := insT_any (adOf v) l.length (cpOf v) i (talCells (l.take i)) (talCells (l.drop i)) base X c.k c.n c.s 0 w (by rw [← talCells_app2, List.take_append_drop]; exact ho) (by rw [talLen, List.length_take, Nat.min_eq_left hi]) hi hn hb hX hne (tal_one _)
  refine h.mono ?_
  rintro e w' ⟨g, cap2, rfl, h1, h2, h3, h4, h5⟩
  refine ⟨g, cap2, rfl, ?_, h2, h3, h4, h5⟩
  have hl : (l.take i ++ (c, 0) :: l.drop i).length = l.length + 1 := by simp; omega
  unfold ownT
  rw [hl, talCells_app2]
  have e2 : talCells ((c, (0 : Int)) :: l.drop i) = [.int .i64 c.k, .int .i64 c.n, .string c.s, .int .i64 0] ++ talCells (l.drop i) := rfl
  rw [e2, ← List.append_assoc]
  exact h1
end Go.Proofs.YtbfbgdinhiglaaaGreat.gr
/- A group is put among groups of one's own, or taken out. -/
namespace Go.Proofs.YtbfbgdinhiglaaaGreat.gr
open Go.ChangeShapes Go.WideShapes Go.ChangeAt Go.RowKit
open vl pl bt
set_option linter.unusedVariables false
set_option linter.unusedSimpArgs false
/-- nothing at all is one's own -/
theorem Est_none {w : World} {base : Nat} {E : List Own1} (h : Est w base E) (e : TypeId) (s : Nat) : Est w base (⟨.slice none 0 0, e, s, 0, []⟩ :: E) := by
  refine ⟨h.low, fun y hy => ?_, List.pairwise_cons.2 ⟨fun y hy g hg => ?_, h.two⟩⟩
  · rcases List.mem_cons.1 hy with rfl | hy
    · exact World.ownsRow_nil _ _ _ _
    · exact h.own y hy
  · cases hg
theorem Est_nones {w : World} {base : Nat} (e : TypeId) (s : Nat) : ∀ (k : Nat) {E : List Own1}, Est w base E → Est w base (List.replicate k ⟨.slice none 0 0, e, s, 0, []⟩ ++ E)
  | 0, E, h => h
  | k + 1, E, h => Est_none (Est_nones e s k h) e s
/-- what stands behind may fall away -/
theorem Est_drop {w : World} {base : Nat} {E F : List Own1} (h : Est w base (E ++ F)) : Est w base F :=
  ⟨h.low, fun y hy => h.own y (List.mem_append.2 (.inr hy)), (List.pairwise_append.1 h.two).2.1⟩
theorem newBags (k : Nat) : (List.replicate k ((.slice none 0 0 : Value), ([] : List Tal))).map bagO = List.replicate k ⟨.slice none 0 0, 82, 4, 0, []⟩ := by
  rw [List.map_replicate]; rfl
/-- a new group with empty bags -/
def newGO (rv : Value) (row : List Cel) (bv : Value) (k : Nat) : GO := ⟨rv, row, 0, bv, List.replicate k (.slice none 0 0, [])⟩
theorem OG.ins {w w2 : World} {base : Nat} {v v' : Value} {A B : List GO} {rv : Value} {row : List Cel} {bv : Value} {k : Nat}
    (h : Est w base (headO v (A ++ B) :: (newGO rv row bv k).rowO :: (newGO rv row bv k).bagsO :: (A ++ B).flatMap GO.all))
    (hs : w.heap.size ≤ w2.heap.size) (hblk : ∀ b, b < w.heap.size → v.ownBlock ≠ some b → w2.heap[b]? = w.heap[b]?) (hx : w2.ownsRow base 53 3 v' (A ++ newGO rv row bv k :: B).length (gcells (A ++ newGO rv row bv k :: B))) (hat : ∀ g, v'.ownBlock = some g → v.ownBlock = some g ∨ w.heap.size ≤ g) :
    OG w2 base v' (A ++ newGO rv row bv k :: B) := by
  have h1 := Est_frame (x' := headO v' (A ++ newGO rv row bv k :: B)) h hs hblk hx hat
  have h2 := Est_nones 82 4 k h1
  refine Est_perm h2 (perm_of (fun a => ?_))
  have e : (newGO rv row bv k).all = (newGO rv row bv k).rowO :: (newGO rv row bv k).bagsO :: List.replicate k ⟨.slice none 0 0, 82, 4, 0, []⟩ := by
    unfold GO.all
    have e1 : (newGO rv row bv k).bs = List.replicate k (.slice none 0 0, []) := rfl
    rw [e1, newBags]
  simp only [List.flatMap_append, List.flatMap_cons, e, List.count_append, List.count_cons]
  omega
/-- a group less -/
theorem OG.del {w w2 : World} {base : Nat} {v v' : Value} {A B : List GO} {x : GO} (h : OG w base v (A ++ x :: B)) (hs : w.heap.size ≤ w2.heap.size) (hblk : ∀ b, b < w.heap.size → v.ownBlock ≠ some b → w2.heap[b]? = w.heap[b]?) (hx : w2.ownsRow base 53 3 v' (A ++ B).length (gcells (A ++ B))) (hat : ∀ g, v'.ownBlock = some g → v.ownBlock = some g ∨ w.heap.size ≤ g) :
    OG w2 base v' (A ++ B) := by
  have h1 := Est_frame (x' := headO v' (A ++ B)) h hs hblk hx hat
  have h2 : Est w2 base (x.all ++ (headO v' (A ++ B) :: (A ++ B).flatMap GO.all)) := by
    refine Est_perm h1 (perm_of (fun a => ?_))
    simp only [List.flatMap_append, List.flatMap_cons, List.count_append, List.count_cons]
    omega
  exact Est_drop h2
theorem gcells_one (L : List GO) (hf : ∀ x ∈ L, x.rv.oneCell' = true ∧ x.bv.oneCell' = true) : ∀ u ∈ gcells L, u.oneCell' = true := fun u hu => by
  unfold gcells at hu
  obtain ⟨x, hx, h⟩ := List.mem_flatMap.1 hu
  simp [GO.cells] at h
  rcases h with rfl | rfl | rfl
  · exact (hf x hx).1
  · rfl
  · exact (hf x hx).2
theorem OG.one {w : World} {base : Nat} {v : Value} {L : List GO} (h : OG w base v L) : ∀ x ∈ L, x.rv.oneCell' = true ∧ x.bv.oneCell' = true := fun x hx => by
  obtain ⟨p1, p2, _⟩ := h.parts hx
  rw [own_is p1, own_is p2]
  exact ⟨rfl, rfl⟩
end Go.Proofs.YtbfbgdinhiglaaaGreat.gr
/- A row comes to a group of one's own: comes. -/
namespace Go.Proofs.YtbfbgdinhiglaaaGreat.gr
open Go.ChangeShapes Go.WideShapes Go.ChangeAt Go.RowKit
open vl pl bt
set_option linter.unusedVariables false
set_option linter.unusedSimpArgs false
attribute [local go_sem] Oper.semAt_some
def Owned (E : List Own1) (K : Nat) : Prop := ∃ o ∈ E, o.v.ownBlock = some K
/-- a bag behind a row that has come -/
def comeB (aggs : List (Int × Int)) (r : List Cel) (j : Nat) (l : List Tal) : List Tal := if (aggs.getD j (0, 0)).1 = 1 then l else addT l (r.getD (aggs.getD j (0, 0)).2.toNat default)
def bsAt (aggs : List (Int × Int)) (r : List Cel) (k : Nat) (bs0 bs : List (Value × List Tal)) : Prop := bs.length = bs0.length ∧ ∀ j, j < bs0.length → (bs.getD j (.slice none 0 0, [])).2 = if j < k then comeB aggs r j (bs0.getD j (.slice none 0 0, [])).2 else (bs0.getD j (.slice none 0 0, [])).2
theorem split_at {α : Type} (l : List α) (k : Nat) (d : α) (h : k < l.length) : l = l.take k ++ l.getD k d :: l.drop (k + 1) := by
  rw [List.getD_eq_getElem?_getD, List.getElem?_eq_getElem h, Option.getD_some, ← List.drop_eq_getElem_cons h, List.take_append_drop]
theorem bsAt_same {aggs : List (Int × Int)} {r : List Cel} {k : Nat} {bs0 bs : List (Value × List Tal)} (h : bsAt aggs r k bs0 bs) (h1 : (aggs.getD k (0, 0)).1 = 1) : bsAt aggs r (k + 1) bs0 bs := by
  refine ⟨h.1, fun j hj => ?_⟩
  rw [h.2 j hj]
  by_cases e : j = k
  · subst e
    rw [if_neg (by omega), if_pos (by omega), comeB, if_pos h1]
  · by_cases e2 : j < k
    · rw [if_pos e2, if_pos (by omega)]
    · rw [if_neg e2, if_neg (by omega)]
theorem bsAt_next {aggs : List (Int × Int)} {r : List Cel} {k : Nat} {bs0 bs : List (Value × List Tal)} (h : bsAt aggs r k bs0 bs) (hk : k < bs0.length) (h1 : (aggs.getD k (0, 0)).1 ≠ 1) (v : Value) : bsAt aggs r (k + 1) bs0 (bs.take k ++ (v, addT (bs.getD k (.slice none 0 0, [])).2 (r.getD (aggs.getD k (0, 0)).2.toNat default)) :: bs.drop (k + 1)) := by
  have hk2 : k < bs.length := by rw [h.1]; exact hk
  have e0 : bs.take k ++ (v, addT (bs.getD k (.slice none 0 0, [])).2 (r.getD (aggs.getD k (0, 0)).2.toNat default)) :: bs.drop (k + 1) = bs.set k (v, addT (bs.getD k (.slice none 0 0, [])).2 (r.getD (aggs.getD k (0, 0)).2.toNat default)) := by
    rw [List.set_eq_take_append_cons_drop, if_pos hk2]
  rw [e0]
  refine ⟨by rw [List.length_set]; exact h.1, fun j hj => ?_⟩
  by_cases e : j = k
  · subst e
    have := h.2 j hj
    rw [if_neg (by omega)] at this
    rw [if_pos (by omega), comeB, if_neg h1, ← this]
    simp [List.getD_eq_getElem?_getD, hk2]
  · have e1 : (bs.set k (v, addT (bs.getD k (.slice none 0 0, [])).2 (r.getD (aggs.getD k (0, 0)).2.toNat default))).getD j (.slice none 0 0, []) = bs.getD j (.slice none 0 0, []) := by
      simp [List.getD_eq_getElem?_getD, List.getElem?_set_ne (Ne.symm e)]
    rw [e1, h.2 j hj]
    by_cases e2 : j < k
    · rw [if_pos e2, if_pos (by omega)]
    · rw [if_neg e2, if_neg (by omega)]
end Go.Proofs.YtbfbgdinhiglaaaGreat.gr
/- A row goes from a group: the bags. -/
namespace Go.Proofs.YtbfbgdinhiglaaaGreat.gr
open Go.ChangeShapes Go.WideShapes Go.ChangeAt Go.RowKit
open vl pl bt
set_option linter.unusedVariables false
set_option linter.unusedSimpArgs false
/-- one less of a cell in a bag -/
def subT (l : List Tal) (c : Cel) : List Tal := if (l.getD (idxT l c) default).2 - 1 = 0 then l.take (idxT l c) ++ l.drop (idxT l c + 1) else l.set (idxT l c) ((l.getD (idxT l c) default).1, (l.getD (idxT l c) default).2 - 1)
/-- a bag behind a row that has gone -/
def goB (aggs : List (Int × Int)) (r : List Cel) (j : Nat) (l : List Tal) : List Tal := if (aggs.getD j (0, 0)).1 = 1 then l else subT l (r.getD (aggs.getD j (0, 0)).2.toNat default)
def bsGo (aggs : List (Int × Int)) (r : List Cel) (k : Nat) (bs0 bs : List (Value × List Tal)) : Prop := bs.length = bs0.length ∧ ∀ j, j < bs0.length → (bs.getD j (.slice none 0 0, [])).2 = if j < k then goB aggs r j (bs0.getD j (.slice none 0 0, [])).2 else (bs0.getD j (.slice none 0 0, [])).2
/-- whether a cell is there to go -/
def mayB (aggs : List (Int × Int)) (r : List Cel) (bs0 : List (Value × List Tal)) (j : Nat) : Bool := decide ((aggs.getD j (0, 0)).1 = 1) || hasT (bs0.getD j (.slice none 0 0, [])).2 (r.getD (aggs.getD j (0, 0)).2.toNat default)
def goesB (aggs : List (Int × Int)) (r : List Cel) (bs0 : List (Value × List Tal)) : Bool := allB bs0.length (mayB aggs r bs0)
theorem bsGo_same {aggs : List (Int × Int)} {r : List Cel} {k : Nat} {bs0 bs : List (Value × List Tal)} (h : bsGo aggs r k bs0 bs) (h1 : (aggs.getD k (0, 0)).1 = 1) : bsGo aggs r (k + 1) bs0 bs := by
  refine ⟨h.1, fun j hj => ?_⟩
  rw [h.2 j hj]
  by_cases e : j = k
  · subst e
    rw [if_neg (by omega), if_pos (by omega), goB, if_pos h1]
  · by_cases e2 : j < k
    · rw [if_pos e2, if_pos (by omega)]
    · rw [if_neg e2, if_neg (by omega)]
theorem bsGo_next {aggs : List (Int × Int)} {r : List Cel} {k : Nat} {bs0 bs : List (Value × List Tal)} (h : bsGo aggs r k bs0 bs) (hk : k < bs0.length) (h1 : (aggs.getD k (0, 0)).1 ≠ 1) (v : Value) : bsGo aggs r (k + 1) bs0 (bs.take k ++ (v, subT (bs.getD k (.slice none 0 0, [])).2 (r.getD (aggs.getD k (0, 0)).2.toNat default)) :: bs.drop (k + 1)) := by
  have hk2 : k < bs.length := by rw [h.1]; exact hk
  have e0 : bs.take k ++ (v, subT (bs.getD k (.slice none 0 0, [])).2 (r.getD (aggs.getD k (0, 0)).2.toNat default)) :: bs.drop (k + 1) = bs.set k (v, subT (bs.getD k (.slice none 0 0, [])).2 (r.getD (aggs.getD k (0, 0)).2.toNat default)) := by
    rw [List.set_eq_take_append_cons_drop, if_pos hk2]
  rw [e0]
  refine ⟨by rw [List.length_set]; exact h.1, fun j hj => ?_⟩
  by_cases e : j = k
  · subst e
    have := h.2 j hj
    rw [if_neg (by omega)] at this
    rw [if_pos (by omega), goB, if_neg h1, ← this]
    simp [List.getD_eq_getElem?_getD, hk2]
  · have e1 : (bs.set k (v, subT (bs.getD k (.slice none 0 0, [])).2 (r.getD (aggs.getD k (0, 0)).2.toNat default))).getD j (.slice none 0 0, []) = bs.getD j (.slice none 0 0, []) := by
      simp [List.getD_eq_getElem?_getD, List.getElem?_set_ne (Ne.symm e)]
    rw [e1, h.2 j hj]
    by_cases e2 : j < k
    · rw [if_pos e2, if_pos (by omega)]
    · rw [if_neg e2, if_neg (by omega)]
end Go.Proofs.YtbfbgdinhiglaaaGreat.gr
/- Where a row's group stands among groups that rise. -/
namespace Go.Proofs.YtbfbgdinhiglaaaGreat.gr
open Go.ChangeShapes Go.WideShapes Go.ChangeAt Go.RowKit
open vl pl bt
set_option linter.unusedVariables false
set_option linter.unusedSimpArgs false
def idxG (l : List Grp) (r : List Cel) : Nat := (l.takeWhile fun x => decide (cmpRows x.row r < 0)).length
def hasG (l : List Grp) (r : List Cel) : Bool := decide (idxG l r < l.length) && decide (cmpRows (l.getD (idxG l r) default).row r = 0)
theorem idxG_le (l : List Grp) (r : List Cel) : idxG l r ≤ l.length := by
  unfold idxG
  have := List.IsPrefix.length_le (List.takeWhile_prefix (l := l) (fun x => decide (cmpRows x.row r < 0)))
  exact this
theorem idxG_is {l : List Grp} {r : List Cel} : ∀ {i : Nat}, i ≤ l.length → (∀ t, t < i → cmpRows (l.getD t default).row r < 0) → (∀ t, i ≤ t → t < l.length → 0 ≤ cmpRows (l.getD t default).row r) → i = idxG l r := by
  induction l with
  | nil => intro i h _ _; have h0 : i = 0 := by simpa using h
           rw [h0]; rfl
  | cons a l ih =>
    intro i hi h1 h2
    cases i with
    | zero =>
      have := h2 0 (Nat.le_refl _) (by simp)
      have h3 : ¬ (cmpRows a.row r < 0) := by simpa using this
      unfold idxG
      rw [List.takeWhile_cons]
      simp [h3]
    | succ i =>
      have h0 : cmpRows a.row r < 0 := by simpa using h1 0 (by omega)
      have := ih (i := i) (by simpa using hi) (fun t ht => by simpa using h1 (t + 1) (by omega)) (fun t ht hl => by simpa using h2 (t + 1) (by omega) (by simpa using hl))
      rw [this]
      unfold idxG
      rw [List.takeWhile_cons]
      simp [h0]
theorem seek_is (ad : Option Addr) (cap : Nat) (L : List GO) (base : Nat) (ka : Option Addr) (kc : Nat) (key : List Cel) (w : World) (h : OG w base (.slice ad L.length cap) L) (hl : L.length < 4611686018427387904) (hk : vl.rowAt w ka key) (hkl : key.length ≤ 1000) (hrl : ∀ x ∈ L, x.row.length ≤ 1000) (hm : ∀ i j, i ≤ j → j < L.length → cmpRows ((L.map GO.grp).getD j default).row key < 0 → cmpRows ((L.map GO.grp).getD i default).row key < 0) :
    Calls Tryz.prog 81 #[.slice ad L.length cap, .slice ka key.length kc, .func (.func 82) #[] #[]] w fun e w' => e = .returned (.tuple #[.int .i64 (idxG (L.map GO.grp) key), .bool (hasG (L.map GO.grp) key)]) ∧ Below w.heap.size w w' := by
  have hlen : (L.map GO.grp).length = L.length := List.length_map ..
  have hat := h.at
  have hs := searchG_any 82 (enters_of Tryz.func82 (by kernel_rfl) rfl) (fun i => cmpRows ((L.map GO.grp).getD i default).row key) ad cap (L.map GO.gx) (L.map GO.grp) ka key.length kc w (by rw [hlen]; exact hl) hat (fun i w1 hi hb => by
    have hi2 : i < L.length := by rw [hlen] at hi; exact hi
    have hx := hat.each i hi
    have hr : ((L.map GO.grp).getD i default).row.length ≤ 1000 := by
      rw [(getD_mapG L i hi2).2]
      exact hrl _ (by rw [List.getD_eq_getElem?_getD, List.getElem?_eq_getElem hi2]; exact List.getElem_mem hi2)
    exact doCmp_any _ _ ka kc key w1 (vl.rowAt_below hx.row hb) (vl.rowAt_below hk hb) (by omega) (by omega)) (fun a b hab hb => hm a b hab (by rw [hlen] at hb; exact hb))
  rw [hlen] at hs
  refine hs.mono ?_
  rintro e w' ⟨⟨i, hi, rfl, h1, h2⟩, hb⟩
  have := idxG_is (l := L.map GO.grp) (by rw [hlen]; exact hi) h1 (fun t ht htl => h2 t ht (by rw [hlen] at htl; exact htl))
  subst this
  refine ⟨?_, hb⟩
  unfold hasG
  rw [hlen]
end Go.Proofs.YtbfbgdinhiglaaaGreat.gr
/- The order of rows and cells goes on: what the searches ask for. -/
namespace Go.Proofs.YtbfbgdinhiglaaaGreat.gr
open Go.ChangeShapes Go.WideShapes Go.ChangeAt Go.RowKit
open vl pl bt
set_option linter.unusedVariables false
set_option linter.unusedSimpArgs false
theorem cmpB_head {a b : UInt8} {x y : List UInt8} (h : Lib.compareBytes (a :: x) (b :: y) < 0) : a < b ∨ (a = b ∧ Lib.compareBytes x y < 0) := by
  rw [Lib.compareBytes] at h
  by_cases h1 : a < b
  · exact .inl h1
  · rw [if_neg h1] at h
    by_cases h2 : b < a
    · rw [if_pos h2] at h; omega
    · rw [if_neg h2] at h
      exact .inr ⟨UInt8.le_antisymm (UInt8.not_lt.1 h2) (UInt8.not_lt.1 h1), h⟩
theorem cmpB_more : ∀ {a b c : List UInt8}, Lib.compareBytes a b < 0 → Lib.compareBytes b c < 0 → Lib.compareBytes a c < 0
  | a, [], c, h, _ => by cases a <;> simp [Lib.compareBytes] at h
  | a, b :: y, [], _, h => by simp [Lib.compareBytes] at h
  | [], b :: y, c :: z, _, _ => by simp [Lib.compareBytes]
  | a :: x, b :: y, c :: z, h1, h2 => by
    rcases cmpB_head h1 with k1 | ⟨rfl, k1⟩
    · rcases cmpB_head h2 with k2 | ⟨rfl, k2⟩
      · rw [cmpB_lt _ _ (UInt8.lt_trans k1 k2)]; decide
      · rw [cmpB_lt _ _ k1]; decide
    · rcases cmpB_head h2 with k2 | ⟨rfl, k2⟩
      · rw [cmpB_lt _ _ k2]; decide
      · have := cmpB_more k1 k2
        rw [Lib.compareBytes, if_neg (UInt8.lt_irrefl a), if_neg (UInt8.lt_irrefl a)]
        exact this
/-- rows' order goes on -/
theorem rows_more {a b c : List Cel} (ha : ∀ z ∈ a, z.ok ∧ z.wf) (hb : ∀ z ∈ b, z.ok ∧ z.wf) (hc : ∀ z ∈ c, z.ok ∧ z.wf) (h1 : cmpRows a b < 0) (h2 : cmpRows b c < 0) : cmpRows a c < 0 := by
  rw [← cmpB_rows a b ha hb] at h1
  rw [← cmpB_rows b c hb hc] at h2
  rw [← cmpB_rows a c ha hc]
  exact cmpB_more h1 h2
/-- what seek_is asks for, of groups that rise -/
theorem seek_mono {gs : List Grp} {key : List Cel} (hok : ∀ i, i < gs.length → ∀ z ∈ (gs.getD i default).row, z.ok ∧ z.wf) (hkey : ∀ z ∈ key, z.ok ∧ z.wf) (hup : ∀ i j, i < j → j < gs.length → cmpRows (gs.getD i default).row (gs.getD j default).row < 0) :
    ∀ i j, i ≤ j → j < gs.length → cmpRows (gs.getD j default).row key < 0 → cmpRows (gs.getD i default).row key < 0 := fun i j hij hj h => by
  rcases Nat.lt_or_ge i j with h1 | h1
  · exact rows_more (hok i (by omega)) (hok j hj) hkey (hup i j h1 hj) h
  · have : i = j := by omega
    rw [this]; exact h
theorem rows_one (c d : Cel) : cmpRows [c] [d] = cmpC c d := by
  by_cases h : cmpC c d = 0
  · simp [cmpRows, h, ordI]
  · simp [cmpRows, h]
theorem cells_more {a b c : Cel} (ha : a.ok ∧ a.wf) (hb : b.ok ∧ b.wf) (hc : c.ok ∧ c.wf) (h1 : cmpC a b < 0) (h2 : cmpC b c < 0) : cmpC a c < 0 := by
  rw [← rows_one] at h1 h2 ⊢
  exact rows_more (by simpa using ha) (by simpa using hb) (by simpa using hc) h1 h2
/-- what find_is asks for, of a bag that rises -/
theorem find_mono {l : List Tal} {c : Cel} (hok : ∀ i, i < l.length → (l.getD i default).1.ok ∧ (l.getD i default).1.wf) (hc : c.ok ∧ c.wf) (hup : ∀ i j, i < j → j < l.length → cmpC (l.getD i default).1 (l.getD j default).1 < 0) :
    ∀ i j, i ≤ j → j < l.length → cmpC (l.getD j default).1 c < 0 → cmpC (l.getD i default).1 c < 0 := fun i j hij hj h => by
  rcases Nat.lt_or_ge i j with h1 | h1
  · exact cells_more (hok i (by omega)) (hok j hj) hc (hup i j h1 hj) h
  · have : i = j := by omega
    rw [this]; exact h
end Go.Proofs.YtbfbgdinhiglaaaGreat.gr
/- lists.Every at groups and at bags, with whatever function it is handed. -/
namespace Go.Proofs.YtbfbgdinhiglaaaGreat.gr
open Go.ChangeShapes Go.WideShapes Go.ChangeAt Go.RowKit
open vl pl bt
set_option linter.unusedVariables false
set_option linter.unusedSimpArgs false
set_option maxHeartbeats 1000000 in
theorem everyGrp_any (fn : FuncId) (eg : ∀ args w, (callFunc fn args).run Tryz.prog w = .ok (.enter fn args) w) (caps : Array Value) (P : Nat → Bool) (a : Option Addr) (cap : Nat) (xs : List GX) (l : List Grp) (w : World) (hl : l.length ≤ 9223372036854775807) (ha : gsAt w a xs l)
    (H : ∀ i w1, i < l.length → Below w.heap.size w w1 → Calls Tryz.prog fn (#[.int .i64 (i : Nat), (grpV (xs.getD i default) (l.getD i default))] ++ caps) w1 fun e w' => e = .returned (.bool (P i)) ∧ Below w1.heap.size w1 w') :
    Calls Tryz.prog 73 #[.slice a l.length cap, .func (.func fn) #[] caps] w fun e w' => e = .returned (.bool (allB l.length P)) ∧ Below w.heap.size w w' := by
  have HH : Hid (∀ i w1, i < l.length → Below w.heap.size w w1 → Calls Tryz.prog fn (#[.int .i64 (i : Nat), (grpV (xs.getD i default) (l.getD i default))] ++ caps) w1 fun e w' => e = .returned (.bool (P i)) ∧ Below w1.heap.size w1 w') := H
  clear H
  obtain ⟨n, hn⟩ : ∃ n, l.length = n := ⟨_, rfl⟩
  have HN : Hid (l.length = n) := hn
  rw [hn] at hl ⊢
  clear hn
  go_enter Tryz.func73, Tryz.ntmps73
  go_wp2
  go_loopw [9] (fun i wr => ∃ k : Nat, k ≤ n ∧ i = .int .i64 k ∧ Below w.heap.size w wr ∧ ∀ i, i < k → P i = true) (fun i _ => n - (intOf i).toNat)
  case atStart => exact ⟨0, Nat.zero_le _, rfl, Below.refl _ _, fun i hi => absurd hi (Nat.not_lt_zero i)⟩
  case round =>
    obtain ⟨k, hk, rfl, hnx, hall⟩ := hrel
    have HA : Hid (∀ i, i < k → P i = true) := hall
    clear hall
    by_cases hlt : k < n
    · obtain ⟨b, o, e, x1, x2, x3⟩ := ha.cells k (by rw [HN.out]; exact hlt)
      subst e
      have q1 := cell_later hnx x1
      have q2 := cell_later hnx x2
      have q3 := cell_later hnx x3
      clear x1 x2 x3 ha
      have i1 : (0 : Int) ≤ (k : Int) := by omega
      have i2 : (k : Int) < (n : Int) := by omega
      have KK : Hid (∀ w1, Below wr.heap.size wr w1 → Calls Tryz.prog fn (#[.int .i64 (k : Nat), (grpV (xs.getD k default) (l.getD k default))] ++ caps) w1 fun e w' => e = .returned (.bool (P k)) ∧ Below w1.heap.size w1 w') := fun w1 hb => HH.out k w1 (by rw [HN.out]; exact hlt) (hnx.trans (hb.mono hnx.size))
      unfold grpV at KK
      obtain ⟨z, hz⟩ : ∃ z, l.getD k default = z := ⟨_, rfl⟩
      rw [hz] at q1 q2 q3 KK
      obtain ⟨y, hy⟩ : ∃ z, xs.getD k default = z := ⟨_, rfl⟩
      rw [hy] at q1 q3 KK
      obtain ⟨v1, hv1⟩ : ∃ v, Value.slice y.r z.row.length y.rc = v := ⟨_, rfl⟩
      obtain ⟨v3, hv3⟩ : ∃ v, Value.slice y.b z.bags.length y.bc = v := ⟨_, rfl⟩
      have o1 : v1.oneCell' = true := by rw [← hv1]; rfl
      have o3 : v3.oneCell' = true := by rw [← hv3]; rfl
      obtain ⟨v2, hv2⟩ : ∃ v, z.n = v := ⟨_, rfl⟩
      obtain ⟨y1, hy1⟩ : ∃ v, y.r = v := ⟨_, rfl⟩
      obtain ⟨y2, hy2⟩ : ∃ v, z.row.length = v := ⟨_, rfl⟩
      obtain ⟨y3, hy3⟩ : ∃ v, y.rc = v := ⟨_, rfl⟩
      obtain ⟨y4, hy4⟩ : ∃ v, y.b = v := ⟨_, rfl⟩
      obtain ⟨y5, hy5⟩ : ∃ v, z.bags.length = v := ⟨_, rfl⟩
      obtain ⟨y6, hy6⟩ : ∃ v, y.bc = v := ⟨_, rfl⟩
      rw [hy1, hy2, hy3] at q1
      rw [hv2] at q2
      rw [hy4, hy5, hy6] at q3
      rw [hy1, hy2, hy3, hv2, hy4, hy5, hy6] at KK
      clear hz hy hv1 hv2 hv3 o1 o3 hy1 hy2 hy3 hy4 hy5 hy6
      have hsz := hnx.size
      cases hp : P k with
      | true =>
        rw [hp] at KK
        go_wp2_with (go_at_fn fn; refine (KK.out _ ((Below.refl _ _).alloc (Nat.le_refl _) _)).mono ?_; rintro e w1 ⟨rfl, hb1⟩; have hbx := (hnx.alloc hsz _).trans (hb1.mono (by simp; omega)))
        go_roundw
        case rel => exact ⟨k + 1, by omega, by go_num, hbx, fun i hi => by
          rcases Nat.lt_succ_iff_lt_or_eq.1 hi with h | h
          · exact HA.out i h
          · rw [h]; exact hp⟩
        case measure => simp [intOf]; omega
      | false =>
        have HE : Hid (allB n P = false) := allB_no hlt hp
        rw [hp] at KK
        go_wp2_with (go_at_fn fn; refine (KK.out _ ((Below.refl _ _).alloc (Nat.le_refl _) _)).mono ?_; rintro e w1 ⟨rfl, hb1⟩; have hbx := (hnx.alloc hsz _).trans (hb1.mono (by simp; omega)))
        go_ret
        exact ⟨ret_bool HE.out.symm, hbx⟩
    · have HE : Hid (allB n P = true) := allB_iff.2 (fun i hi => HA.out i (by omega))
      go_wp2
      go_ret
      exact ⟨ret_bool HE.out.symm, hnx⟩
set_option maxHeartbeats 1000000 in
theorem everyBag_any (fn : FuncId) (eg : ∀ args w, (callFunc fn args).run Tryz.prog w = .ok (.enter fn args) w) (caps : Array Value) (P : Nat → Bool) (a : Option Addr) (cap : Nat) (l : List (Option Addr × Nat × Nat)) (w : World) (hl : l.length ≤ 9223372036854775807) (ha : hdrsAt w a l)
    (H : ∀ i w1, i < l.length → Below w.heap.size w w1 → Calls Tryz.prog fn (#[.int .i64 (i : Nat), .slice (l.getD i (none, 0, 0)).1 (l.getD i (none, 0, 0)).2.1 (l.getD i (none, 0, 0)).2.2] ++ caps) w1 fun e w' => e = .returned (.bool (P i)) ∧ Below w1.heap.size w1 w') :
    Calls Tryz.prog 125 #[.slice a l.length cap, .func (.func fn) #[] caps] w fun e w' => e = .returned (.bool (allB l.length P)) ∧ Below w.heap.size w w' := by
  have HH : Hid (∀ i w1, i < l.length → Below w.heap.size w w1 → Calls Tryz.prog fn (#[.int .i64 (i : Nat), .slice (l.getD i (none, 0, 0)).1 (l.getD i (none, 0, 0)).2.1 (l.getD i (none, 0, 0)).2.2] ++ caps) w1 fun e w' => e = .returned (.bool (P i)) ∧ Below w1.heap.size w1 w') := H
  clear H
  obtain ⟨n, hn⟩ : ∃ n, l.length = n := ⟨_, rfl⟩
  have HN : Hid (l.length = n) := hn
  rw [hn] at hl ⊢
  clear hn
  go_enter Tryz.func125, Tryz.ntmps125
  go_wp2
  go_loopw [9] (fun i wr => ∃ k : Nat, k ≤ n ∧ i = .int .i64 k ∧ Below w.heap.size w wr ∧ ∀ i, i < k → P i = true) (fun i _ => n - (intOf i).toNat)
  case atStart => exact ⟨0, Nat.zero_le _, rfl, Below.refl _ _, fun i hi => absurd hi (Nat.not_lt_zero i)⟩
  case round =>
    obtain ⟨k, hk, rfl, hnx, hall⟩ := hrel
    have HA : Hid (∀ i, i < k → P i = true) := hall
    clear hall
    by_cases hlt : k < n
    · obtain ⟨b, o, e, x1⟩ := ha k (by rw [HN.out]; exact hlt)
      subst e
      have q1 := cell_later hnx x1
      clear x1 ha
      have i1 : (0 : Int) ≤ (k : Int) := by omega
      have i2 : (k : Int) < (n : Int) := by omega
      have KK : Hid (Calls Tryz.prog fn (#[.int .i64 (k : Nat), .slice (l.getD k (none, 0, 0)).1 (l.getD k (none, 0, 0)).2.1 (l.getD k (none, 0, 0)).2.2] ++ caps) wr fun e w' => e = .returned (.bool (P k)) ∧ Below wr.heap.size wr w') := HH.out k wr (by rw [HN.out]; exact hlt) hnx
      obtain ⟨⟨z1, z2, z3⟩, hz⟩ : ∃ z, l.getD k (none, 0, 0) = z := ⟨_, rfl⟩
      rw [hz] at q1 KK
      dsimp only at q1 KK
      clear hz
      have hsz := hnx.size
      cases hp : P k with
      | true =>
        rw [hp] at KK
        go_wp2_with (go_at_fn fn; refine KK.out.mono ?_; rintro e w1 ⟨rfl, hb1⟩)
        go_roundw
        case rel => exact ⟨k + 1, by omega, by go_num, hnx.trans (hb1.mono hsz), fun i hi => by
          rcases Nat.lt_succ_iff_lt_or_eq.1 hi with h | h
          · exact HA.out i h
          · rw [h]; exact hp⟩
        case measure => simp [intOf]; omega
      | false =>
        have HE : Hid (allB n P = false) := allB_no hlt hp
        rw [hp] at KK
        go_wp2_with (go_at_fn fn; refine KK.out.mono ?_; rintro e w1 ⟨rfl, hb1⟩)
        go_ret
        exact ⟨ret_bool HE.out.symm, hnx.trans (hb1.mono hsz)⟩
    · have HE : Hid (allB n P = true) := allB_iff.2 (fun i hi => HA.out i (by omega))
      go_wp2
      go_ret
      exact ⟨ret_bool HE.out.symm, hnx⟩
end Go.Proofs.YtbfbgdinhiglaaaGreat.gr
