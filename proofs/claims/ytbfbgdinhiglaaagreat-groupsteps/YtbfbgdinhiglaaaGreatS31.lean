import Derived.Test.YtbfbgdinhiglaaaGreatS29
import Derived.Test.YtbfbgdinhiglaaaGreatGrpRTally
namespace Go.Proofs.YtbfbgdinhiglaaaGreat.gr
open Go.ChangeShapes Go.WideShapes Go.ChangeAt Go.RowKit
open vl pl bt
set_option linter.unusedVariables false
set_option linter.unusedSimpArgs false
def EG (w : World) (base : Nat) (v : Value) (L : List GO) (E : List Own1) : Prop := Est w base ((headO v L :: L.flatMap GO.all) ++ E)
theorem EG.below {w w' : World} {base : Nat} {v : Value} {L : List GO} {E : List Own1} (h : EG w base v L E) (hb : Below w.heap.size w w') : EG w' base v L E := Est_below h hb
theorem EG.og {w : World} {base : Nat} {v : Value} {L : List GO} {E : List Own1} (h : EG w base v L E) : OG w base v L :=
 ⟨h.low, fun y hy => h.own y (List.mem_append.2 (.inl hy)), (List.pairwise_append.1 h.two).1⟩
theorem EG.mem {w : World} {base : Nat} {v : Value} {L : List GO} {E : List Own1} (h : EG w base v L E) {x : Own1} (hx : x ∈ E) : x.here w base := h.own x (List.mem_append.2 (.inr hx))
def boxPl (C : Nat) (p : Pln) (x : PA) : Own1 := ⟨.slice (some ⟨C, 0, none⟩) 1 1, 25, 13, 1, [.int .i64 p.kind, .int .i64 p.mode, .int .i64 p.low, .int .i64 p.high, .int .i64 p.size, .int .i64 p.limit, .slice x.l p.left.length x.lc, .slice x.r p.right.length x.rc, .slice x.lk p.lkeys.length x.lkc, .slice x.rk p.rkeys.length x.rkc, .bool p.grouped, .slice x.g p.group.length x.gc, .slice x.a p.aggs.length x.ac]⟩
def boxCh (D : Nat) (kd : Int) (ra : Option Addr) (rn rc : Nat) : Own1 := ⟨.slice (some ⟨D, 0, none⟩) 1 1, 65, 2, 1, [.int .i64 kd, .slice ra rn rc]⟩
theorem own_boxS (w : World) (T : TypeId) (s : Nat) (xs : List Value) (hb : Nat) (h : hb ≤ w.heap.size) (hs : xs.length = s) : (w.alloc (.cells xs.toArray T)).ownsRow hb T s (.slice (some ⟨w.heap.size, 0, none⟩) 1 1) 1 xs :=
 ⟨by simp [hs], .inr ⟨w.heap.size, 1, xs.toArray, rfl, h, (by show (w.heap.push _)[w.heap.size]? = _; simp), Nat.le_refl _, by decide, by simp [hs], by simp [← hs]⟩⟩
theorem boxPl_cells {w : World} {base C : Nat} {p : Pln} {x : PA} (h : (boxPl C p x).here w base) : boxP w C p x := by
 have hc := World.ownsRow.cells h (g := C) rfl
 have h2 : ∀ j u, ([.int .i64 p.kind, .int .i64 p.mode, .int .i64 p.low, .int .i64 p.high, .int .i64 p.size, .int .i64 p.limit, .slice x.l p.left.length x.lc, .slice x.r p.right.length x.rc, .slice x.lk p.lkeys.length x.lkc, .slice x.rk p.rkeys.length x.rkc, .bool p.grouped, .slice x.g p.group.length x.gc, .slice x.a p.aggs.length x.ac] : List Value)[j]? = some u → w.cell? ⟨C, j, none⟩ = some u := fun j u hu => by
  have := hc j u hu
  rw [ch.add_at, Nat.zero_add] at this
  exact this
 exact ⟨h2 0 _ rfl, h2 1 _ rfl, h2 2 _ rfl, h2 3 _ rfl, h2 4 _ rfl, h2 5 _ rfl, h2 6 _ rfl, h2 7 _ rfl, h2 8 _ rfl, h2 9 _ rfl, h2 10 _ rfl, h2 11 _ rfl, h2 12 _ rfl⟩
theorem boxCh_cells {w : World} {base D : Nat} {kd : Int} {ra : Option Addr} {rn rc : Nat} (h : (boxCh D kd ra rn rc).here w base) : w.cell? ⟨D, 0, none⟩ = some (.int .i64 kd) ∧ w.cell? ⟨D, 1, none⟩ = some (.slice ra rn rc) := by
 have hc := World.ownsRow.cells h (g := D) rfl
 have h0 := hc 0 _ rfl
 have h1 := hc 1 _ rfl
 rw [ch.add_at] at h0 h1
 exact ⟨h0, h1⟩
theorem EG.start {w : World} {base : Nat} {v : Value} {L : List GO} (h : OG w base v L) (p : Pln) (x : PA) (kd : Int) (ra : Option Addr) (rn rc : Nat) :
 EG ((w.alloc (.cells #[.int .i64 p.kind, .int .i64 p.mode, .int .i64 p.low, .int .i64 p.high, .int .i64 p.size, .int .i64 p.limit, .slice x.l p.left.length x.lc, .slice x.r p.right.length x.rc, .slice x.lk p.lkeys.length x.lkc, .slice x.rk p.rkeys.length x.rkc, .bool p.grouped, .slice x.g p.group.length x.gc, .slice x.a p.aggs.length x.ac] 25)).alloc (.cells #[.int .i64 kd, .slice ra rn rc] 65)) base v L [boxCh (w.heap.size + 1) kd ra rn rc, boxPl w.heap.size p x] := by
 have h1 : Est (w.alloc (.cells #[.int .i64 p.kind, .int .i64 p.mode, .int .i64 p.low, .int .i64 p.high, .int .i64 p.size, .int .i64 p.limit, .slice x.l p.left.length x.lc, .slice x.r p.right.length x.rc, .slice x.lk p.lkeys.length x.lkc, .slice x.rk p.rkeys.length x.rkc, .bool p.grouped, .slice x.g p.group.length x.gc, .slice x.a p.aggs.length x.ac] 25)) base (boxPl w.heap.size p x :: (headO v L :: L.flatMap GO.all)) := Est_new (x := boxPl w.heap.size p x) h (bR.alloc nR _) (own_boxS w 25 13 [.int .i64 p.kind, .int .i64 p.mode, .int .i64 p.low, .int .i64 p.high, .int .i64 p.size, .int .i64 p.limit, .slice x.l p.left.length x.lc, .slice x.r p.right.length x.rc, .slice x.lk p.lkeys.length x.lkc, .slice x.rk p.rkeys.length x.rkc, .bool p.grouped, .slice x.g p.group.length x.gc, .slice x.a p.aggs.length x.ac] base h.low rfl) (fun g hg => by cases hg; exact Nat.le_refl _)
 have e : (w.alloc (.cells #[.int .i64 p.kind, .int .i64 p.mode, .int .i64 p.low, .int .i64 p.high, .int .i64 p.size, .int .i64 p.limit, .slice x.l p.left.length x.lc, .slice x.r p.right.length x.rc, .slice x.lk p.lkeys.length x.lkc, .slice x.rk p.rkeys.length x.rkc, .bool p.grouped, .slice x.g p.group.length x.gc, .slice x.a p.aggs.length x.ac] 25)).heap.size = w.heap.size + 1 := by simp
 have h2 := Est_new (x := boxCh (w.heap.size + 1) kd ra rn rc) h1 (bR.alloc nR _) (by have := own_boxS (w.alloc (.cells #[.int .i64 p.kind, .int .i64 p.mode, .int .i64 p.low, .int .i64 p.high, .int .i64 p.size, .int .i64 p.limit, .slice x.l p.left.length x.lc, .slice x.r p.right.length x.rc, .slice x.lk p.lkeys.length x.lkc, .slice x.rk p.rkeys.length x.rkc, .bool p.grouped, .slice x.g p.group.length x.gc, .slice x.a p.aggs.length x.ac] 25)) 65 2 [.int .i64 kd, .slice ra rn rc] base h1.low rfl; rw [e] at this; exact this) (fun g hg => by cases hg; rw [e]; exact Nat.le_refl _)
 refine Est_perm h2 (perm_of (fun a => ?_))
 simp only [List.count_append, List.count_cons, List.count_nil]
 omega
theorem EG.putN {w : World} {base g cap LN : Nat} {A B : List GO} {x : GO} {E : List Own1} (h : EG w base (.slice (some ⟨g, 0, none⟩) LN cap) (A ++ x :: B) E) (M : Int) :
 EG (w.setCell ⟨g, A.length * 3 + 1, none⟩ (.int .i64 M)) base (.slice (some ⟨g, 0, none⟩) LN cap) (A ++ { x with n := M } :: B) E := by
 have hln : LN = (A ++ x :: B).length := by
  have e := own_is h.og.head
  injection e
 subst hln
 have h0 : Est w base (headO (.slice (some ⟨g, 0, none⟩) (A ++ x :: B).length cap) (A ++ x :: B) :: ((A ++ x :: B).flatMap GO.all ++ E)) := h
 have h1 := Est_set (j := A.length * 3 + 1) h0 (by rw [List.length_append, List.length_cons]; omega) (.int .i64 M)
 rw [gcells_set] at h1
 have e1 : (A ++ { x with n := M } :: B).length = (A ++ x :: B).length := by simp
 have e2 : (A ++ x :: B).flatMap GO.all = (A ++ { x with n := M } :: B).flatMap GO.all := by simp [GO.all, GO.rowO, GO.bagsO]
 unfold EG headO
 rw [e1, ← e2]
 exact h1
theorem EG.putB {w w2 : World} {base bb nb bc : Nat} {v : Value} {A B : List GO} {x : GO} {C D : List (Value × List Tal)} {b b' : Value × List Tal} {E : List Own1} (h : EG w base v (A ++ x :: B) E) (hb : x.bs = C ++ b :: D) (hbv : x.bv = .slice (some ⟨bb, 0, none⟩) nb bc)
 (hs : w.heap.size ≤ w2.heap.size) (hblk : ∀ k, k < w.heap.size → b.1.ownBlock ≠ some k → w2.heap[k]? = w.heap[k]?) (hx : ownT w2 base b'.1 b'.2) (hat : ∀ g, b'.1.ownBlock = some g → b.1.ownBlock = some g ∨ w.heap.size ≤ g) :
 EG (w2.setCell ⟨bb, C.length, none⟩ b'.1) base v (A ++ { x with bs := C ++ b' :: D } :: B) E := by
 have hp : Est w base (bagO b :: x.bagsO :: (headO v (A ++ x :: B) :: (A.flatMap GO.all ++ x.rowO :: (C.map bagO ++ D.map bagO) ++ B.flatMap GO.all) ++ E)) := Est_perm h ((all_perm v A B x C D b hb (headO v (A ++ x :: B))).append_right E)
 have h1 := Est_frame (x' := bagO b') hp hs hblk hx hat
 have h2 := Est_perm h1 (List.Perm.swap _ _ _)
 have hbl := (h.og.parts (x := x) (by simp)).2.1
 have hnb : nb = x.bs.length := by
  have e := own_is hbl
  rw [hbv] at e
  injection e
 unfold GO.bagsO at h2
 rw [hbv] at h2
 subst hnb
 have h3 := Est_set (j := C.length) h2 (by rw [hb]; simp) b'.1
 have e1 : (x.bs.map (·.1)).set C.length b'.1 = (C ++ b' :: D).map (·.1) := by
  rw [hb, List.map_append, List.map_cons, List.map_append, List.map_cons]
  have := set_mid (C.map (·.1)) (D.map (·.1)) b.1 b'.1
  rw [List.length_map] at this
  exact this
 rw [e1] at h3
 refine Est_perm h3 ?_
 refine perm_of (fun a => ?_)
 have e2 : headO v (A ++ { x with bs := C ++ b' :: D } :: B) = headO v (A ++ x :: B) := by
  unfold headO
  rw [gcells_app, gcells_app]
  simp [gcells, GO.cells]
 rw [e2]
 have e3 : (⟨.slice (some ⟨bb, 0, none⟩) x.bs.length bc, 61, 1, x.bs.length, (C ++ b' :: D).map (·.1)⟩ : Own1) = GO.bagsO { x with bs := C ++ b' :: D } := by
  unfold GO.bagsO
  have e4 : x.bs.length = (C ++ b' :: D).length := by rw [hb]; simp
  dsimp only
  rw [hbv, e4]
 rw [e3]
 have e5 : GO.rowO { x with bs := C ++ b' :: D } = x.rowO := rfl
 simp only [List.flatMap_append, List.flatMap_cons, GO.all, List.map_append, List.map_cons, List.count_append, List.count_cons, e5]
 omega
theorem EG.bagOther {w w2 : World} {base : Nat} {v : Value} {A B : List GO} {x : GO} {C D : List (Value × List Tal)} {b : Value × List Tal} {E : List Own1} (h : EG w base v (A ++ x :: B) E) (hb : x.bs = C ++ b :: D) (hblk : ∀ k, k < w.heap.size → b.1.ownBlock ≠ some k → w2.heap[k]? = w.heap[k]?) {K : Nat} {o : Own1} (ho : o ∈ x.bagsO :: headO v (A ++ x :: B) :: E) (hK : o.v.ownBlock = some K) : w2.heap[K]? = w.heap[K]? := by
 have hp : Est w base (bagO b :: x.bagsO :: (headO v (A ++ x :: B) :: (A.flatMap GO.all ++ x.rowO :: (C.map bagO ++ D.map bagO) ++ B.flatMap GO.all) ++ E)) := Est_perm h ((all_perm v A B x C D b hb (headO v (A ++ x :: B))).append_right E)
 have hm : o ∈ x.bagsO :: (headO v (A ++ x :: B) :: (A.flatMap GO.all ++ x.rowO :: (C.map bagO ++ D.map bagO) ++ B.flatMap GO.all) ++ E) := by
  rcases List.mem_cons.1 ho with h1 | h1
  ·rw [h1]; exact List.mem_cons_self ..
  ·rcases List.mem_cons.1 h1 with h2 | h2
   ·rw [h2]; simp
   ·exact List.mem_cons_of_mem _ (List.mem_append.2 (.inr h2))
 have hap := (List.pairwise_cons.1 hp.two).1 o hm
 have hlt := (ch.own_lt (hp.own o (List.mem_cons_of_mem _ hm)) hK).2
 exact hblk K hlt (fun e => hap K e hK)
theorem EG.del {w w2 : World} {base : Nat} {v v' : Value} {A B : List GO} {x : GO} {E : List Own1} (h : EG w base v (A ++ x :: B) E) (hs : w.heap.size ≤ w2.heap.size) (hblk : ∀ b, b < w.heap.size → v.ownBlock ≠ some b → w2.heap[b]? = w.heap[b]?) (hx : w2.ownsRow base 53 3 v' (A ++ B).length (gcells (A ++ B))) (hat : ∀ g, v'.ownBlock = some g → v.ownBlock = some g ∨ w.heap.size ≤ g) : OG w2 base v' (A ++ B) := h.og.del hs hblk hx hat
theorem set_three (A B y : List Value) (a b c : Value) (hy : y.length = 3) : ((((A ++ y ++ B).set A.length a).set (A.length + 1) b).set (A.length + 2) c) = A ++ [a, b, c] ++ B := by
 match y, hy with
 | [y0, y1, y2], _ =>
  rw [List.append_assoc, List.append_assoc]
  have s0 : ∀ (k : Nat) (u : Value) (L : List Value), (A ++ L).set (A.length + k) u = A ++ L.set k u := fun k u L => by
   rw [List.set_append_right _ _ (by omega)]; congr 2; omega
  have := s0 0
  simp only [Nat.add_zero] at this
  rw [this, s0, s0]
  rfl
theorem EG.ins {w : World} {base g n cap k : Nat} {A B : List GO} {y : List Value} {rv : Value} {row : List Cel} {bv : Value} {E : List Own1} (h : Est w base ((⟨.slice (some ⟨g, 0, none⟩) n cap, 53, 3, n, gcells A ++ y ++ gcells B⟩ : Own1) :: (newGO rv row bv k).rowO :: (newGO rv row bv k).bagsO :: ((A ++ B).flatMap GO.all ++ E))) (hy : y.length = 3) :
 EG (((w.setCell ⟨g, A.length * 3, none⟩ rv).setCell ⟨g, A.length * 3 + 1, none⟩ (.int .i64 0)).setCell ⟨g, A.length * 3 + 2, none⟩ bv) base (.slice (some ⟨g, 0, none⟩) n cap) (A ++ newGO rv row bv k :: B) E := by
 have hl := (h.own _ (List.mem_cons_self ..)).1
 dsimp only at hl
 rw [List.length_append, List.length_append, gcells_len, gcells_len, hy] at hl
 have h1 := Est_set (j := A.length * 3 + 2) (Est_set (j := A.length * 3 + 1) (Est_set (j := A.length * 3) h (by omega) rv) (by omega) (.int .i64 0)) (by omega) bv
 have e0 := set_three (gcells A) (gcells B) y rv (.int .i64 0) bv hy
 rw [gcells_len] at e0
 rw [e0] at h1
 have e1 : gcells A ++ [rv, .int .i64 0, bv] ++ gcells B = gcells (A ++ newGO rv row bv k :: B) := by
  rw [gcells_app, List.append_assoc]; rfl
 rw [e1] at h1
 have e2 : n = (A ++ newGO rv row bv k :: B).length := by simp; omega
 have h2 := Est_nones 82 4 k h1
 refine Est_perm h2 (perm_of (fun a => ?_))
 have e : (newGO rv row bv k).all = (newGO rv row bv k).rowO :: (newGO rv row bv k).bagsO :: List.replicate k ⟨.slice none 0 0, 82, 4, 0, []⟩ := by
  unfold GO.all
  have e3 : (newGO rv row bv k).bs = List.replicate k (.slice none 0 0, []) := rfl
  rw [e3, newBags]
 have e4 : (⟨.slice (some ⟨g, 0, none⟩) n cap, 53, 3, n, gcells (A ++ newGO rv row bv k :: B)⟩ : Own1) = headO (.slice (some ⟨g, 0, none⟩) n cap) (A ++ newGO rv row bv k :: B) := by
  unfold headO; rw [← e2]
 rw [e4]
 simp only [List.flatMap_append, List.flatMap_cons, e, List.count_append, List.count_cons]
 omega
def tlB (d : Int) (aggs : List (Int × Int)) (r : List Cel) (j : Nat) (l : List Tal) : List Tal := if (aggs.getD j (0, 0)).1 = 1 then l else talR d l (r.getD (aggs.getD j (0, 0)).2.toNat default)
def tkB (d : Int) (aggs : List (Int × Int)) (r : List Cel) (j : Nat) (l : List Tal) : Bool := decide ((aggs.getD j (0, 0)).1 = 1) || talOk d l (r.getD (aggs.getD j (0, 0)).2.toNat default)
def bsT (d : Int) (aggs : List (Int × Int)) (r : List Cel) (k : Nat) (bs0 bs : List (Value × List Tal)) : Prop := bs.length = bs0.length ∧ ∀ j, j < bs0.length → (bs.getD j (.slice none 0 0, [])).2 = if j < k then tlB d aggs r j (bs0.getD j (.slice none 0 0, [])).2 else (bs0.getD j (.slice none 0 0, [])).2
theorem bsT_same {d : Int} {aggs : List (Int × Int)} {r : List Cel} {k : Nat} {bs0 bs : List (Value × List Tal)} (h : bsT d aggs r k bs0 bs) (h1 : (aggs.getD k (0, 0)).1 = 1) : bsT d aggs r (k + 1) bs0 bs := by
 refine ⟨h.1, fun j hj => ?_⟩
 rw [h.2 j hj]
 by_cases hjk : j < k
 ·rw [if_pos hjk, if_pos (by omega)]
 ·rw [if_neg hjk]
  by_cases hje : j = k
  ·subst hje
   rw [if_pos (by omega)]
   unfold tlB
   rw [if_pos h1]
  ·rw [if_neg (by omega)]
theorem bsT_next {d : Int} {aggs : List (Int × Int)} {r : List Cel} {k : Nat} {bs0 bs : List (Value × List Tal)} (h : bsT d aggs r k bs0 bs) (hk : k < bs0.length) (h1 : (aggs.getD k (0, 0)).1 ≠ 1) (v : Value) : bsT d aggs r (k + 1) bs0 (bs.take k ++ (v, talR d (bs.getD k (.slice none 0 0, [])).2 (r.getD (aggs.getD k (0, 0)).2.toNat default)) :: bs.drop (k + 1)) := by
 have hkb : k < bs.length := by rw [h.1]; exact hk
 have htk : (bs.take k).length = k := by rw [List.length_take]; omega
 refine ⟨by rw [List.length_append, List.length_cons, List.length_drop, htk]; have := h.1; omega, fun j hj => ?_⟩
 by_cases hjk : j < k
 ·have e : (bs.take k ++ (v, talR d (bs.getD k (.slice none 0 0, [])).2 (r.getD (aggs.getD k (0, 0)).2.toNat default)) :: bs.drop (k + 1)).getD j (.slice none 0 0, []) = bs.getD j (.slice none 0 0, []) := by
   rw [List.getD_eq_getElem?_getD, List.getElem?_append_left (by omega), List.getElem?_take, if_pos hjk, ← List.getD_eq_getElem?_getD]
  rw [e, h.2 j hj, if_pos hjk, if_pos (by omega)]
 ·by_cases hje : j = k
  ·subst hje
   have e : (bs.take j ++ (v, talR d (bs.getD j (.slice none 0 0, [])).2 (r.getD (aggs.getD j (0, 0)).2.toNat default)) :: bs.drop (j + 1)).getD j (.slice none 0 0, []) = (v, talR d (bs.getD j (.slice none 0 0, [])).2 (r.getD (aggs.getD j (0, 0)).2.toNat default)) := by
    rw [List.getD_eq_getElem?_getD, List.getElem?_append_right (by omega), htk, Nat.sub_self]; rfl
   rw [e, if_pos (by omega)]
   have := h.2 j hj
   rw [if_neg (Nat.lt_irrefl j)] at this
   unfold tlB
   rw [if_neg h1, ← this]
  ·have e : (bs.take k ++ (v, talR d (bs.getD k (.slice none 0 0, [])).2 (r.getD (aggs.getD k (0, 0)).2.toNat default)) :: bs.drop (k + 1)).getD j (.slice none 0 0, []) = bs.getD j (.slice none 0 0, []) := by
    rw [List.getD_eq_getElem?_getD, List.getElem?_append_right (by omega), htk]
    obtain ⟨m, hm⟩ : ∃ m, j - k = m + 1 := ⟨j - k - 1, by omega⟩
    rw [hm, List.getElem?_cons_succ, List.getElem?_drop, show k + 1 + m = j by omega, ← List.getD_eq_getElem?_getD]
   rw [e, h.2 j hj, if_neg (by omega), if_neg (by omega)]
theorem bsT_come {aggs : List (Int × Int)} {r : List Cel} {bs0 bs : List (Value × List Tal)} (h : bsT 1 aggs r aggs.length bs0 bs) (hl : bs0.length = aggs.length) : bs.map (·.2) = (List.range (bs0.map (·.2)).length).map fun j => comeB aggs r j ((bs0.map (·.2)).getD j []) :=
 bags_of h.1 (fun j hj => by rw [h.2 j hj, if_pos (by omega)]; rfl)
theorem bsT_go {aggs : List (Int × Int)} {r : List Cel} {bs0 bs : List (Value × List Tal)} (h : bsT (-1) aggs r aggs.length bs0 bs) (hl : bs0.length = aggs.length) (ht : ∀ j, j < aggs.length → tkB (-1) aggs r j (bs0.getD j (.slice none 0 0, [])).2 = true) : bs.map (·.2) = (List.range (bs0.map (·.2)).length).map fun j => goB aggs r j ((bs0.map (·.2)).getD j []) :=
 bags_of h.1 (fun j hj => by
  rw [h.2 j hj, if_pos (by omega)]
  have := ht j (by omega)
  unfold tkB talOk at this
  unfold tlB goB
  split
  ·rfl
  ·rename_i hne
   unfold talR
   rw [if_neg (by decide), if_pos]
   rcases Bool.or_eq_true_iff.1 this with h1 | h1
   ·exact absurd (of_decide_eq_true h1) hne
   ·rcases Bool.or_eq_true_iff.1 h1 with h2 | h2
    ·exact absurd (of_decide_eq_true h2) (by decide)
    ·exact h2)
theorem may_of {p : Pln} {r : List Cel} {y : GO} (hl : y.bs.length = p.aggs.length) (h : ∀ j, j < p.aggs.length → tkB (-1) p.aggs r j (y.bs.getD j (.slice none 0 0, [])).2 = true) : mayG p r y.grp = true := by
 rw [may_is]
 unfold goesB
 rw [allB_iff]
 intro j hj
 have := h j (by omega)
 unfold tkB talOk at this
 unfold mayB
 simpa using this
theorem may_not {p : Pln} {r : List Cel} {y : GO} (hl : y.bs.length = p.aggs.length) {j : Nat} (hj : j < p.aggs.length) (h : tkB (-1) p.aggs r j (y.bs.getD j (.slice none 0 0, [])).2 = false) : mayG p r y.grp = false := by
 rw [may_is]
 unfold goesB
 refine allB_no (by omega : j < y.bs.length) ?_
 unfold tkB talOk at h
 unfold mayB
 simpa using h
def turnRes (R : Int × List Grp) (base : Nat) (e : Ending) (w' : World) : Prop := (R.1 ≠ 0 ∧ ∃ v, e = .returned (.tuple #[v, .int .i64 R.1])) ∨ (R.1 = 0 ∧ ∃ ad cap L, e = .returned (.tuple #[.slice ad L.length cap, .int .i64 0]) ∧ OG w' base (.slice ad L.length cap) L ∧ L.map GO.grp = R.2)
def restG (d : Int) (p : Pln) (r : List Cel) (A : List Grp) (y : Grp) (B : List Grp) : Int × List Grp :=
 if d = 1 then (0, A ++ comeG p r y :: B) else if mayG p r y = false then (9, []) else if y.n - 1 = 0 then (0, A ++ B) else (0, A ++ goG p r y :: B)
theorem moreOf_is {kd : Int} (h1 : 1 ≤ kd) (h4 : kd ≤ 4) : (ch.moreOf kd = -1 ↔ (kd = 2 ∨ kd = 3)) ∧ (ch.moreOf kd = 1 ∨ ch.moreOf kd = -1) := by
 unfold ch.moreOf
 split <;> omega
theorem do_none {p : Pln} {kd : Int} {r : List Cel} {gs : List Grp} (hk : kd = 2 ∨ kd = 3) (hh : hasG gs (pickR r p.group) = false) : doG p kd r gs = (9, []) := by unfold doG; rw [if_pos hk, if_pos hh]
theorem do_many {p : Pln} {kd : Int} {r : List Cel} {gs : List Grp} (hk : ¬ (kd = 2 ∨ kd = 3)) (h : (hasG gs (pickR r p.group) = false ∧ gs.length = 4096) ∨ (hasG gs (pickR r p.group) = true ∧ (gs.getD (idxG gs (pickR r p.group)) default).n = 1073741824)) : doG p kd r gs = (2, []) := by
 unfold doG
 rw [if_neg hk]
 rcases h with ⟨h1, h2⟩ | ⟨h1, h2⟩
 ·rw [if_neg (by rw [h1]; decide), if_pos (by omega)]
 ·rw [if_pos h1, if_pos (.inl (by omega))]
theorem do_rest {p : Pln} {kd : Int} {r : List Cel} {gs : List Grp} (h1 : 1 ≤ kd) (h4 : kd ≤ 4) (hh : hasG gs (pickR r p.group) = true) (hm : gs.length ≤ 4096) (hn : ¬ (kd = 2 ∨ kd = 3) → (gs.getD (idxG gs (pickR r p.group)) default).n < 1073741824) : doG p kd r gs = restG (ch.moreOf kd) p r (gs.take (idxG gs (pickR r p.group))) (gs.getD (idxG gs (pickR r p.group)) default) (gs.drop (idxG gs (pickR r p.group) + 1)) := by
 unfold doG restG
 by_cases hk : kd = 2 ∨ kd = 3
 ·have e : ch.moreOf kd = -1 := (moreOf_is h1 h4).1.2 hk
  rw [if_pos hk, if_neg (by rw [hh]; decide), e]
  rfl
 ·have e : ch.moreOf kd = 1 := by rcases (moreOf_is h1 h4).2 with h | h; exact h; exact absurd ((moreOf_is h1 h4).1.1 h) hk
  rw [if_neg hk, if_pos hh, if_pos e, if_neg (by have := hn hk; omega)]
theorem do_fresh {p : Pln} {kd : Int} {r : List Cel} {gs : List Grp} (hk : ¬ (kd = 2 ∨ kd = 3)) (hh : hasG gs (pickR r p.group) = false) (hm : gs.length + 1 ≤ 4096) : doG p kd r gs = restG 1 p r (gs.take (idxG gs (pickR r p.group))) (newG p (pickR r p.group)) (gs.drop (idxG gs (pickR r p.group))) := by
 unfold doG restG
 rw [if_neg hk, if_neg (by rw [hh]; decide), if_neg (by omega), if_pos rfl]
end Go.Proofs.YtbfbgdinhiglaaaGreat.gr
