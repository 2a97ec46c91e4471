import Derived.Test.YtbfbgdinhiglaaaGreatS15
import Derived.Test.YtbfbgdinhiglaaaGreatMgPlnB
import Derived.Test.YtbfbgdinhiglaaaGreatS13
import Derived.Test.YtbfbgdinhiglaaaGreatS8
import Derived.Deep.RegionHeld3
import Derived.BigQuiet
import Derived.Test.YtbfbgdinhiglaaaGreatMgPlnD
namespace Go.Proofs.YtbfbgdinhiglaaaGreat.gr
open Go.ChangeShapes Go.WideShapes Go.ChangeAt Go.RowKit
open vl pl bt
set_option linter.unusedVariables false
set_option linter.unusedSimpArgs false
theorem Est_none {w : World} {base : Nat} {E : List Own1} (h : Est w base E) (e : TypeId) (s : Nat) : Est w base (⟨.slice none 0 0, e, s, 0, []⟩ :: E) := by
 refine ⟨h.low, fun y hy => ?_, List.pairwise_cons.2 ⟨fun y hy g hg => ?_, h.two⟩⟩
 ·rcases List.mem_cons.1 hy with rfl | hy
  ·exact World.ownsRow_nil _ _ _ _
  ·exact h.own y hy
 ·cases hg
theorem Est_nones {w : World} {base : Nat} (e : TypeId) (s : Nat) : ∀ (k : Nat) {E : List Own1}, Est w base E → Est w base (List.replicate k ⟨.slice none 0 0, e, s, 0, []⟩ ++ E)
 | 0, E, h => h
 | k + 1, E, h => Est_none (Est_nones e s k h) e s
theorem Est_drop {w : World} {base : Nat} {E F : List Own1} (h : Est w base (E ++ F)) : Est w base F :=
 ⟨h.low, fun y hy => h.own y (List.mem_append.2 (.inr hy)), (List.pairwise_append.1 h.two).2.1⟩
theorem newBags (k : Nat) : (List.replicate k ((.slice none 0 0 : Value), ([] : List Tal))).map bagO = List.replicate k ⟨.slice none 0 0, 82, 4, 0, []⟩ := by
 rw [List.map_replicate]; rfl
def newGO (rv : Value) (row : List Cel) (bv : Value) (k : Nat) : GO := ⟨rv, row, 0, bv, List.replicate k (.slice none 0 0, [])⟩
theorem OG.ins {w w2 : World} {base : Nat} {v v' : Value} {A B : List GO} {rv : Value} {row : List Cel} {bv : Value} {k : Nat}
 (h : Est w base (headO v (A ++ B) :: (newGO rv row bv k).rowO :: (newGO rv row bv k).bagsO :: (A ++ B).flatMap GO.all))
 (hs : w.heap.size ≤ w2.heap.size) (hblk : ∀ b, b < w.heap.size → v.ownBlock ≠ some b → w2.heap[b]? = w.heap[b]?) (hx : w2.ownsRow base 53 3 v' (A ++ newGO rv row bv k :: B).length (gcells (A ++ newGO rv row bv k :: B))) (hat : ∀ g, v'.ownBlock = some g → v.ownBlock = some g ∨ w.heap.size ≤ g) :
 OG w2 base v' (A ++ newGO rv row bv k :: B) := by
 have h1 := Est_frame (x' := headO v' (A ++ newGO rv row bv k :: B)) h hs hblk hx hat
 have h2 := Est_nones 82 4 k h1
 refine Est_perm h2 (perm_of (fun a => ?_))
 have e : (newGO rv row bv k).all = (newGO rv row bv k).rowO :: (newGO rv row bv k).bagsO :: List.replicate k ⟨.slice none 0 0, 82, 4, 0, []⟩ := by
  unfold GO.all
  have e1 : (newGO rv row bv k).bs = List.replicate k (.slice none 0 0, []) := rfl
  rw [e1, newBags]
 simp only [List.flatMap_append, List.flatMap_cons, e, List.count_append, List.count_cons]
 omega
theorem OG.del {w w2 : World} {base : Nat} {v v' : Value} {A B : List GO} {x : GO} (h : OG w base v (A ++ x :: B)) (hs : w.heap.size ≤ w2.heap.size) (hblk : ∀ b, b < w.heap.size → v.ownBlock ≠ some b → w2.heap[b]? = w.heap[b]?) (hx : w2.ownsRow base 53 3 v' (A ++ B).length (gcells (A ++ B))) (hat : ∀ g, v'.ownBlock = some g → v.ownBlock = some g ∨ w.heap.size ≤ g) :
 OG w2 base v' (A ++ B) := by
 have h1 := Est_frame (x' := headO v' (A ++ B)) h hs hblk hx hat
 have h2 : Est w2 base (x.all ++ (headO v' (A ++ B) :: (A ++ B).flatMap GO.all)) := by
  refine Est_perm h1 (perm_of (fun a => ?_))
  simp only [List.flatMap_append, List.flatMap_cons, List.count_append, List.count_cons]
  omega
 exact Est_drop h2
theorem gcells_one (L : List GO) (hf : ∀ x ∈ L, x.rv.oneCell' = true ∧ x.bv.oneCell' = true) : ∀ u ∈ gcells L, u.oneCell' = true := fun u hu => by
 unfold gcells at hu
 obtain ⟨x, hx, h⟩ := List.mem_flatMap.1 hu
 simp [GO.cells] at h
 rcases h with rfl | rfl | rfl
 ·exact (hf x hx).1
 ·rfl
 ·exact (hf x hx).2
theorem OG.one {w : World} {base : Nat} {v : Value} {L : List GO} (h : OG w base v L) : ∀ x ∈ L, x.rv.oneCell' = true ∧ x.bv.oneCell' = true := fun x hx => by
 obtain ⟨p1, p2, _⟩ := h.parts hx
 rw [own_is p1, own_is p2]
 exact ⟨rfl, rfl⟩
end Go.Proofs.YtbfbgdinhiglaaaGreat.gr
namespace Go.Proofs.YtbfbgdinhiglaaaGreat.gr
open Go.ChangeShapes Go.WideShapes Go.ChangeAt Go.RowKit
open vl pl bt
set_option linter.unusedVariables false
set_option linter.unusedSimpArgs false
attribute [local go_sem] Oper.semAt_some
def Owned (E : List Own1) (K : Nat) : Prop := ∃ o ∈ E, o.v.ownBlock = some K
def comeB (aggs : List (Int × Int)) (r : List Cel) (j : Nat) (l : List Tal) : List Tal := if (aggs.getD j (0, 0)).1 = 1 then l else addT l (r.getD (aggs.getD j (0, 0)).2.toNat default)
def bsAt (aggs : List (Int × Int)) (r : List Cel) (k : Nat) (bs0 bs : List (Value × List Tal)) : Prop := bs.length = bs0.length ∧ ∀ j, j < bs0.length → (bs.getD j (.slice none 0 0, [])).2 = if j < k then comeB aggs r j (bs0.getD j (.slice none 0 0, [])).2 else (bs0.getD j (.slice none 0 0, [])).2
theorem split_at {α : Type} (l : List α) (k : Nat) (d : α) (h : k < l.length) : l = l.take k ++ l.getD k d :: l.drop (k + 1) := by
 rw [List.getD_eq_getElem?_getD, List.getElem?_eq_getElem h, Option.getD_some, ← List.drop_eq_getElem_cons h, List.take_append_drop]
theorem bsAt_same {aggs : List (Int × Int)} {r : List Cel} {k : Nat} {bs0 bs : List (Value × List Tal)} (h : bsAt aggs r k bs0 bs) (h1 : (aggs.getD k (0, 0)).1 = 1) : bsAt aggs r (k + 1) bs0 bs := by
 refine ⟨h.1, fun j hj => ?_⟩
 rw [h.2 j hj]
 by_cases e : j = k
 ·subst e
  rw [if_neg (by omega), if_pos (by omega), comeB, if_pos h1]
 ·by_cases e2 : j < k
  ·rw [if_pos e2, if_pos (by omega)]
  ·rw [if_neg e2, if_neg (by omega)]
theorem bsAt_next {aggs : List (Int × Int)} {r : List Cel} {k : Nat} {bs0 bs : List (Value × List Tal)} (h : bsAt aggs r k bs0 bs) (hk : k < bs0.length) (h1 : (aggs.getD k (0, 0)).1 ≠ 1) (v : Value) : bsAt aggs r (k + 1) bs0 (bs.take k ++ (v, addT (bs.getD k (.slice none 0 0, [])).2 (r.getD (aggs.getD k (0, 0)).2.toNat default)) :: bs.drop (k + 1)) := by
 have hk2 : k < bs.length := by rw [h.1]; exact hk
 have e0 : bs.take k ++ (v, addT (bs.getD k (.slice none 0 0, [])).2 (r.getD (aggs.getD k (0, 0)).2.toNat default)) :: bs.drop (k + 1) = bs.set k (v, addT (bs.getD k (.slice none 0 0, [])).2 (r.getD (aggs.getD k (0, 0)).2.toNat default)) := by
  rw [List.set_eq_take_append_cons_drop, if_pos hk2]
 rw [e0]
 refine ⟨by rw [List.length_set]; exact h.1, fun j hj => ?_⟩
 by_cases e : j = k
 ·subst e
  have := h.2 j hj
  rw [if_neg (by omega)] at this
  rw [if_pos (by omega), comeB, if_neg h1, ← this]
  simp [List.getD_eq_getElem?_getD, hk2]
 ·have e1 : (bs.set k (v, addT (bs.getD k (.slice none 0 0, [])).2 (r.getD (aggs.getD k (0, 0)).2.toNat default))).getD j (.slice none 0 0, []) = bs.getD j (.slice none 0 0, []) := by
   simp [List.getD_eq_getElem?_getD, List.getElem?_set_ne (Ne.symm e)]
  rw [e1, h.2 j hj]
  by_cases e2 : j < k
  ·rw [if_pos e2, if_pos (by omega)]
  ·rw [if_neg e2, if_neg (by omega)]
end Go.Proofs.YtbfbgdinhiglaaaGreat.gr
namespace Go.Proofs.YtbfbgdinhiglaaaGreat.gr
open Go.ChangeShapes Go.WideShapes Go.ChangeAt Go.RowKit
open vl pl bt
set_option linter.unusedVariables false
set_option linter.unusedSimpArgs false
def subT (l : List Tal) (c : Cel) : List Tal := if (l.getD (idxT l c) default).2 - 1 = 0 then l.take (idxT l c) ++ l.drop (idxT l c + 1) else l.set (idxT l c) ((l.getD (idxT l c) default).1, (l.getD (idxT l c) default).2 - 1)
def goB (aggs : List (Int × Int)) (r : List Cel) (j : Nat) (l : List Tal) : List Tal := if (aggs.getD j (0, 0)).1 = 1 then l else subT l (r.getD (aggs.getD j (0, 0)).2.toNat default)
def bsGo (aggs : List (Int × Int)) (r : List Cel) (k : Nat) (bs0 bs : List (Value × List Tal)) : Prop := bs.length = bs0.length ∧ ∀ j, j < bs0.length → (bs.getD j (.slice none 0 0, [])).2 = if j < k then goB aggs r j (bs0.getD j (.slice none 0 0, [])).2 else (bs0.getD j (.slice none 0 0, [])).2
def mayB (aggs : List (Int × Int)) (r : List Cel) (bs0 : List (Value × List Tal)) (j : Nat) : Bool := decide ((aggs.getD j (0, 0)).1 = 1) || hasT (bs0.getD j (.slice none 0 0, [])).2 (r.getD (aggs.getD j (0, 0)).2.toNat default)
def goesB (aggs : List (Int × Int)) (r : List Cel) (bs0 : List (Value × List Tal)) : Bool := allB bs0.length (mayB aggs r bs0)
theorem bsGo_same {aggs : List (Int × Int)} {r : List Cel} {k : Nat} {bs0 bs : List (Value × List Tal)} (h : bsGo aggs r k bs0 bs) (h1 : (aggs.getD k (0, 0)).1 = 1) : bsGo aggs r (k + 1) bs0 bs := by
 refine ⟨h.1, fun j hj => ?_⟩
 rw [h.2 j hj]
 by_cases e : j = k
 ·subst e
  rw [if_neg (by omega), if_pos (by omega), goB, if_pos h1]
 ·by_cases e2 : j < k
  ·rw [if_pos e2, if_pos (by omega)]
  ·rw [if_neg e2, if_neg (by omega)]
theorem bsGo_next {aggs : List (Int × Int)} {r : List Cel} {k : Nat} {bs0 bs : List (Value × List Tal)} (h : bsGo aggs r k bs0 bs) (hk : k < bs0.length) (h1 : (aggs.getD k (0, 0)).1 ≠ 1) (v : Value) : bsGo aggs r (k + 1) bs0 (bs.take k ++ (v, subT (bs.getD k (.slice none 0 0, [])).2 (r.getD (aggs.getD k (0, 0)).2.toNat default)) :: bs.drop (k + 1)) := by
 have hk2 : k < bs.length := by rw [h.1]; exact hk
 have e0 : bs.take k ++ (v, subT (bs.getD k (.slice none 0 0, [])).2 (r.getD (aggs.getD k (0, 0)).2.toNat default)) :: bs.drop (k + 1) = bs.set k (v, subT (bs.getD k (.slice none 0 0, [])).2 (r.getD (aggs.getD k (0, 0)).2.toNat default)) := by
  rw [List.set_eq_take_append_cons_drop, if_pos hk2]
 rw [e0]
 refine ⟨by rw [List.length_set]; exact h.1, fun j hj => ?_⟩
 by_cases e : j = k
 ·subst e
  have := h.2 j hj
  rw [if_neg (by omega)] at this
  rw [if_pos (by omega), goB, if_neg h1, ← this]
  simp [List.getD_eq_getElem?_getD, hk2]
 ·have e1 : (bs.set k (v, subT (bs.getD k (.slice none 0 0, [])).2 (r.getD (aggs.getD k (0, 0)).2.toNat default))).getD j (.slice none 0 0, []) = bs.getD j (.slice none 0 0, []) := by
   simp [List.getD_eq_getElem?_getD, List.getElem?_set_ne (Ne.symm e)]
  rw [e1, h.2 j hj]
  by_cases e2 : j < k
  ·rw [if_pos e2, if_pos (by omega)]
  ·rw [if_neg e2, if_neg (by omega)]
def idxG (l : List Grp) (r : List Cel) : Nat := (l.takeWhile fun x => decide (cmpRows x.row r < 0)).length
def hasG (l : List Grp) (r : List Cel) : Bool := decide (idxG l r < l.length) && decide (cmpRows (l.getD (idxG l r) default).row r = 0)
theorem idxG_le (l : List Grp) (r : List Cel) : idxG l r ≤ l.length := by
 unfold idxG
 have := List.IsPrefix.length_le (List.takeWhile_prefix (l := l) (fun x => decide (cmpRows x.row r < 0)))
 exact this
theorem idxG_is {l : List Grp} {r : List Cel} : ∀ {i : Nat}, i ≤ l.length → (∀ t, t < i → cmpRows (l.getD t default).row r < 0) → (∀ t, i ≤ t → t < l.length → 0 ≤ cmpRows (l.getD t default).row r) → i = idxG l r := by
 induction l with
 | nil => intro i h _ _; have h0 : i = 0 := by simpa using h
          rw [h0]; rfl
 | cons a l ih =>
  intro i hi h1 h2
  cases i with
  | zero =>
   have := h2 0 nR (by simp)
   have h3 : ¬ (cmpRows a.row r < 0) := by simpa using this
   unfold idxG
   rw [List.takeWhile_cons]
   simp [h3]
  | succ i =>
   have h0 : cmpRows a.row r < 0 := by simpa using h1 0 (by omega)
   have := ih (i := i) (by simpa using hi) (fun t ht => by simpa using h1 (t + 1) (by omega)) (fun t ht hl => by simpa using h2 (t + 1) (by omega) (by simpa using hl))
   rw [this]
   unfold idxG
   rw [List.takeWhile_cons]
   simp [h0]
theorem seek_is (ad : Option Addr) (cap : Nat) (L : List GO) (base : Nat) (ka : Option Addr) (kc : Nat) (key : List Cel) (w : World) (h : OG w base (.slice ad L.length cap) L) (hl : L.length < 4611686018427387904) (hk : vl.rowAt w ka key) (hkl : key.length ≤ 1000) (hrl : ∀ x ∈ L, x.row.length ≤ 1000) (hm : ∀ i j, i ≤ j → j < L.length → cmpRows ((L.map GO.grp).getD j default).row key < 0 → cmpRows ((L.map GO.grp).getD i default).row key < 0) :
 Calls Tryz.prog 81 #[.slice ad L.length cap, .slice ka key.length kc, .func (.func 82) #[] #[]] w fun e w' => e = .returned (.tuple #[.int .i64 (idxG (L.map GO.grp) key), .bool (hasG (L.map GO.grp) key)]) ∧ Below w.heap.size w w' := by
 have hlen : (L.map GO.grp).length = L.length := List.length_map ..
 have hat := h.at
 have hs := searchG_any 82 (enters_of Tryz.func82 (by kernel_rfl) rfl) (fun i => cmpRows ((L.map GO.grp).getD i default).row key) ad cap (L.map GO.gx) (L.map GO.grp) ka key.length kc w (by rw [hlen]; exact hl) hat (fun i w1 hi hb => by
  have hi2 : i < L.length := by rw [hlen] at hi; exact hi
  have hx := hat.each i hi
  have hr : ((L.map GO.grp).getD i default).row.length ≤ 1000 := by
   rw [(getD_mapG L i hi2).2]
   exact hrl _ (by rw [List.getD_eq_getElem?_getD, List.getElem?_eq_getElem hi2]; exact List.getElem_mem hi2)
  exact doCmp_any _ _ ka kc key w1 (vl.rowAt_below hx.row hb) (vl.rowAt_below hk hb) (by omega) (by omega)) (fun a b hab hb => hm a b hab (by rw [hlen] at hb; exact hb))
 rw [hlen] at hs
 refine hs.mono ?_
 rintro e w' ⟨⟨i, hi, rfl, h1, h2⟩, hb⟩
 have := idxG_is (l := L.map GO.grp) (by rw [hlen]; exact hi) h1 (fun t ht htl => h2 t ht (by rw [hlen] at htl; exact htl))
 subst this
 refine ⟨?_, hb⟩
 unfold hasG
 rw [hlen]
theorem cmpB_head {a b : UInt8} {x y : List UInt8} (h : Lib.compareBytes (a :: x) (b :: y) < 0) : a < b ∨ (a = b ∧ Lib.compareBytes x y < 0) := by
 rw [Lib.compareBytes] at h
 by_cases h1 : a < b
 ·exact .inl h1
 ·rw [if_neg h1] at h
  by_cases h2 : b < a
  ·rw [if_pos h2] at h; omega
  ·rw [if_neg h2] at h
   exact .inr ⟨UInt8.le_antisymm (UInt8.not_lt.1 h2) (UInt8.not_lt.1 h1), h⟩
theorem cmpB_more : ∀ {a b c : List UInt8}, Lib.compareBytes a b < 0 → Lib.compareBytes b c < 0 → Lib.compareBytes a c < 0
 | a, [], c, h, _ => by cases a <;> simp [Lib.compareBytes] at h
 | a, b :: y, [], _, h => by simp [Lib.compareBytes] at h
 | [], b :: y, c :: z, _, _ => by simp [Lib.compareBytes]
 | a :: x, b :: y, c :: z, h1, h2 => by
  rcases cmpB_head h1 with k1 | ⟨rfl, k1⟩
  ·rcases cmpB_head h2 with k2 | ⟨rfl, k2⟩
   ·rw [cmpB_lt _ _ (UInt8.lt_trans k1 k2)]; decide
   ·rw [cmpB_lt _ _ k1]; decide
  ·rcases cmpB_head h2 with k2 | ⟨rfl, k2⟩
   ·rw [cmpB_lt _ _ k2]; decide
   ·have := cmpB_more k1 k2
    rw [Lib.compareBytes, if_neg (UInt8.lt_irrefl a), if_neg (UInt8.lt_irrefl a)]
    exact this
theorem rows_more {a b c : List Cel} (ha : ∀ z ∈ a, z.ok ∧ z.wf) (hb : ∀ z ∈ b, z.ok ∧ z.wf) (hc : ∀ z ∈ c, z.ok ∧ z.wf) (h1 : cmpRows a b < 0) (h2 : cmpRows b c < 0) : cmpRows a c < 0 := by
 rw [← cmpB_rows a b ha hb] at h1
 rw [← cmpB_rows b c hb hc] at h2
 rw [← cmpB_rows a c ha hc]
 exact cmpB_more h1 h2
theorem seek_mono {gs : List Grp} {key : List Cel} (hok : ∀ i, i < gs.length → ∀ z ∈ (gs.getD i default).row, z.ok ∧ z.wf) (hkey : ∀ z ∈ key, z.ok ∧ z.wf) (hup : ∀ i j, i < j → j < gs.length → cmpRows (gs.getD i default).row (gs.getD j default).row < 0) :
 ∀ i j, i ≤ j → j < gs.length → cmpRows (gs.getD j default).row key < 0 → cmpRows (gs.getD i default).row key < 0 := fun i j hij hj h => by
 rcases Nat.lt_or_ge i j with h1 | h1
 ·exact rows_more (hok i (by omega)) (hok j hj) hkey (hup i j h1 hj) h
 ·have : i = j := by omega
  rw [this]; exact h
theorem rows_one (c d : Cel) : cmpRows [c] [d] = cmpC c d := by
 by_cases h : cmpC c d = 0
 ·simp [cmpRows, h, ordI]
 ·simp [cmpRows, h]
theorem cells_more {a b c : Cel} (ha : a.ok ∧ a.wf) (hb : b.ok ∧ b.wf) (hc : c.ok ∧ c.wf) (h1 : cmpC a b < 0) (h2 : cmpC b c < 0) : cmpC a c < 0 := by
 rw [← rows_one] at h1 h2 ⊢
 exact rows_more (by simpa using ha) (by simpa using hb) (by simpa using hc) h1 h2
theorem find_mono {l : List Tal} {c : Cel} (hok : ∀ i, i < l.length → (l.getD i default).1.ok ∧ (l.getD i default).1.wf) (hc : c.ok ∧ c.wf) (hup : ∀ i j, i < j → j < l.length → cmpC (l.getD i default).1 (l.getD j default).1 < 0) :
 ∀ i j, i ≤ j → j < l.length → cmpC (l.getD j default).1 c < 0 → cmpC (l.getD i default).1 c < 0 := fun i j hij hj h => by
 rcases Nat.lt_or_ge i j with h1 | h1
 ·exact cells_more (hok i (by omega)) (hok j hj) hc (hup i j h1 hj) h
 ·have : i = j := by omega
  rw [this]; exact h
set_option maxHeartbeats 1000000 in
theorem everyGrp_any (fn : FuncId) (eg : ∀ args w, (callFunc fn args).run Tryz.prog w = .ok (.enter fn args) w) (caps : Array Value) (P : Nat → Bool) (a : Option Addr) (cap : Nat) (xs : List GX) (l : List Grp) (w : World) (hl : l.length ≤ 9223372036854775807) (ha : gsAt w a xs l)
 (H : ∀ i w1, i < l.length → Below w.heap.size w w1 → Calls Tryz.prog fn (#[.int .i64 (i : Nat), (grpV (xs.getD i default) (l.getD i default))] ++ caps) w1 fun e w' => e = .returned (.bool (P i)) ∧ Below w1.heap.size w1 w') :
 Calls Tryz.prog 73 #[.slice a l.length cap, .func (.func fn) #[] caps] w fun e w' => e = .returned (.bool (allB l.length P)) ∧ Below w.heap.size w w' := by
 have HH : Hid (∀ i w1, i < l.length → Below w.heap.size w w1 → Calls Tryz.prog fn (#[.int .i64 (i : Nat), (grpV (xs.getD i default) (l.getD i default))] ++ caps) w1 fun e w' => e = .returned (.bool (P i)) ∧ Below w1.heap.size w1 w') := H
 clear H
 obtain ⟨n, hn⟩ : ∃ n, l.length = n := ⟨_, rfl⟩
 have HN : Hid (l.length = n) := hn
 rw [hn] at hl ⊢
 clear hn
 go_enter Tryz.func73, Tryz.ntmps73
 go_wp2
 go_loopw [9] (fun i wr => ∃ k : Nat, k ≤ n ∧ i = .int .i64 k ∧ Below w.heap.size w wr ∧ ∀ i, i < k → P i = true) (fun i _ => n - (intOf i).toNat)
 case atStart => exact ⟨0, Nat.zero_le _, rfl, bR, fun i hi => absurd hi (Nat.not_lt_zero i)⟩
 case round =>
  obtain ⟨k, hk, rfl, hnx, hall⟩ := hrel
  have HA : Hid (∀ i, i < k → P i = true) := hall
  clear hall
  by_cases hlt : k < n
  ·obtain ⟨b, o, e, x1, x2, x3⟩ := ha.cells k (by rw [HN.out]; exact hlt)
   subst e
   have q1 := cL hnx x1
   have q2 := cL hnx x2
   have q3 := cL hnx x3
   clear x1 x2 x3 ha
   have i1 : (0 : Int) ≤ (k : Int) := by omega
   have i2 : (k : Int) < (n : Int) := by omega
   have KK : Hid (∀ w1, Below wr.heap.size wr w1 → Calls Tryz.prog fn (#[.int .i64 (k : Nat), (grpV (xs.getD k default) (l.getD k default))] ++ caps) w1 fun e w' => e = .returned (.bool (P k)) ∧ Below w1.heap.size w1 w') := fun w1 hb => HH.out k w1 (by rw [HN.out]; exact hlt) (hnx.trans (hb.mono hnx.size))
   unfold grpV at KK
   obtain ⟨z, hz⟩ : ∃ z, l.getD k default = z := ⟨_, rfl⟩
   rw [hz] at q1 q2 q3 KK
   obtain ⟨y, hy⟩ : ∃ z, xs.getD k default = z := ⟨_, rfl⟩
   rw [hy] at q1 q3 KK
   obtain ⟨v1, hv1⟩ : ∃ v, Value.slice y.r z.row.length y.rc = v := ⟨_, rfl⟩
   obtain ⟨v3, hv3⟩ : ∃ v, Value.slice y.b z.bags.length y.bc = v := ⟨_, rfl⟩
   have o1 : v1.oneCell' = true := by rw [← hv1]; rfl
   have o3 : v3.oneCell' = true := by rw [← hv3]; rfl
   obtain ⟨v2, hv2⟩ : ∃ v, z.n = v := ⟨_, rfl⟩
   obtain ⟨y1, hy1⟩ : ∃ v, y.r = v := ⟨_, rfl⟩
   obtain ⟨y2, hy2⟩ : ∃ v, z.row.length = v := ⟨_, rfl⟩
   obtain ⟨y3, hy3⟩ : ∃ v, y.rc = v := ⟨_, rfl⟩
   obtain ⟨y4, hy4⟩ : ∃ v, y.b = v := ⟨_, rfl⟩
   obtain ⟨y5, hy5⟩ : ∃ v, z.bags.length = v := ⟨_, rfl⟩
   obtain ⟨y6, hy6⟩ : ∃ v, y.bc = v := ⟨_, rfl⟩
   rw [hy1, hy2, hy3] at q1
   rw [hv2] at q2
   rw [hy4, hy5, hy6] at q3
   rw [hy1, hy2, hy3, hv2, hy4, hy5, hy6] at KK
   clear hz hy hv1 hv2 hv3 o1 o3 hy1 hy2 hy3 hy4 hy5 hy6
   have hsz := hnx.size
   cases hp : P k with
   | true =>
    rw [hp] at KK
    go_wp2_with (go_at_fn fn; refine (KK.out _ (bR.alloc nR _)).mono ?_; rintro e w1 ⟨rfl, hb1⟩; have hbx := (hnx.alloc hsz _).trans (hb1.mono (by simp; omega)))
    go_roundw
    case rel => exact ⟨k + 1, by omega, by go_num, hbx, fun i hi => by
     rcases Nat.lt_succ_iff_lt_or_eq.1 hi with h | h
     ·exact HA.out i h
     ·rw [h]; exact hp⟩
    case measure => simp [intOf]; omega
   | false =>
    have HE : Hid (allB n P = false) := allB_no hlt hp
    rw [hp] at KK
    go_wp2_with (go_at_fn fn; refine (KK.out _ (bR.alloc nR _)).mono ?_; rintro e w1 ⟨rfl, hb1⟩; have hbx := (hnx.alloc hsz _).trans (hb1.mono (by simp; omega)))
    go_ret
    exact ⟨ret_bool HE.out.symm, hbx⟩
  ·have HE : Hid (allB n P = true) := allB_iff.2 (fun i hi => HA.out i (by omega))
   go_wp2
   go_ret
   exact ⟨ret_bool HE.out.symm, hnx⟩
set_option maxHeartbeats 1000000 in
theorem everyBag_any (fn : FuncId) (eg : ∀ args w, (callFunc fn args).run Tryz.prog w = .ok (.enter fn args) w) (caps : Array Value) (P : Nat → Bool) (a : Option Addr) (cap : Nat) (l : List (Option Addr × Nat × Nat)) (w : World) (hl : l.length ≤ 9223372036854775807) (ha : hdrsAt w a l)
 (H : ∀ i w1, i < l.length → Below w.heap.size w w1 → Calls Tryz.prog fn (#[.int .i64 (i : Nat), .slice (l.getD i (none, 0, 0)).1 (l.getD i (none, 0, 0)).2.1 (l.getD i (none, 0, 0)).2.2] ++ caps) w1 fun e w' => e = .returned (.bool (P i)) ∧ Below w1.heap.size w1 w') :
 Calls Tryz.prog 125 #[.slice a l.length cap, .func (.func fn) #[] caps] w fun e w' => e = .returned (.bool (allB l.length P)) ∧ Below w.heap.size w w' := by
 have HH : Hid (∀ i w1, i < l.length → Below w.heap.size w w1 → Calls Tryz.prog fn (#[.int .i64 (i : Nat), .slice (l.getD i (none, 0, 0)).1 (l.getD i (none, 0, 0)).2.1 (l.getD i (none, 0, 0)).2.2] ++ caps) w1 fun e w' => e = .returned (.bool (P i)) ∧ Below w1.heap.size w1 w') := H
 clear H
 obtain ⟨n, hn⟩ : ∃ n, l.length = n := ⟨_, rfl⟩
 have HN : Hid (l.length = n) := hn
 rw [hn] at hl ⊢
 clear hn
 go_enter Tryz.func125, Tryz.ntmps125
 go_wp2
 go_loopw [9] (fun i wr => ∃ k : Nat, k ≤ n ∧ i = .int .i64 k ∧ Below w.heap.size w wr ∧ ∀ i, i < k → P i = true) (fun i _ => n - (intOf i).toNat)
 case atStart => exact ⟨0, Nat.zero_le _, rfl, bR, fun i hi => absurd hi (Nat.not_lt_zero i)⟩
 case round =>
  obtain ⟨k, hk, rfl, hnx, hall⟩ := hrel
  have HA : Hid (∀ i, i < k → P i = true) := hall
  clear hall
  by_cases hlt : k < n
  ·obtain ⟨b, o, e, x1⟩ := ha k (by rw [HN.out]; exact hlt)
   subst e
   have q1 := cL hnx x1
   clear x1 ha
   have i1 : (0 : Int) ≤ (k : Int) := by omega
   have i2 : (k : Int) < (n : Int) := by omega
   have KK : Hid (Calls Tryz.prog fn (#[.int .i64 (k : Nat), .slice (l.getD k (none, 0, 0)).1 (l.getD k (none, 0, 0)).2.1 (l.getD k (none, 0, 0)).2.2] ++ caps) wr fun e w' => e = .returned (.bool (P k)) ∧ Below wr.heap.size wr w') := HH.out k wr (by rw [HN.out]; exact hlt) hnx
   obtain ⟨⟨z1, z2, z3⟩, hz⟩ : ∃ z, l.getD k (none, 0, 0) = z := ⟨_, rfl⟩
   rw [hz] at q1 KK
   dsimp only at q1 KK
   clear hz
   have hsz := hnx.size
   cases hp : P k with
   | true =>
    rw [hp] at KK
    go_wp2_with (go_at_fn fn; refine KK.out.mono ?_; rintro e w1 ⟨rfl, hb1⟩)
    go_roundw
    case rel => exact ⟨k + 1, by omega, by go_num, hnx.trans (hb1.mono hsz), fun i hi => by
     rcases Nat.lt_succ_iff_lt_or_eq.1 hi with h | h
     ·exact HA.out i h
     ·rw [h]; exact hp⟩
    case measure => simp [intOf]; omega
   | false =>
    have HE : Hid (allB n P = false) := allB_no hlt hp
    rw [hp] at KK
    go_wp2_with (go_at_fn fn; refine KK.out.mono ?_; rintro e w1 ⟨rfl, hb1⟩)
    go_ret
    exact ⟨ret_bool HE.out.symm, hnx.trans (hb1.mono hsz)⟩
  ·have HE : Hid (allB n P = true) := allB_iff.2 (fun i hi => HA.out i (by omega))
   go_wp2
   go_ret
   exact ⟨ret_bool HE.out.symm, hnx⟩
end Go.Proofs.YtbfbgdinhiglaaaGreat.gr
namespace Go.Proofs.YtbfbgdinhiglaaaGreat.gr
open Go.ChangeShapes Go.WideShapes Go.ChangeAt Go.RowKit
open vl pl bt
set_option linter.unusedVariables false
set_option linter.unusedSimpArgs false
attribute [local go_sem] Oper.semAt_some
set_option maxHeartbeats 2000000 in
theorem valueRight_any (c : Cel) (col : Int) (w : World) (hs : c.s.size ≤ maxLen) :
 Calls Tryz.prog 156 #[celV c, .int .i64 col] w fun e w' => e = .returned (.bool (valB c col)) ∧ Below w.heap.size w w' := by
 have KC : Hid (∀ w1, Calls Tryz.prog 99 #[celV c] w1 fun e w' => e = .returned (.int .i64 (chk c.k c.n c.s)) ∧ Below w1.heap.size w1 w') := fun w1 => check_any c.k c.n c.s w1 hs
 obtain ⟨R, hR⟩ : ∃ z, valB c col = z := ⟨_, rfl⟩
 have HR : Hid (valB c col = R) := hR
 unfold valB at HR
 rw [hR]
 clear hR hs
 obtain ⟨E, hE⟩ : ∃ z, chk c.k c.n c.s = z := ⟨_, rfl⟩
 rw [hE] at KC HR
 clear hE
 obtain ⟨ck, cn, cs⟩ := c
 unfold celV at KC ⊢
 dsimp only at KC HR ⊢
 have hb0 : Below w.heap.size w (w.alloc (.cells #[.int .i64 ck, .int .i64 cn, .string cs] 68)) := bR.alloc nR _
 by_cases h0 : E = 0
 ·subst h0
  by_cases h1 : ck = 0
  ·subst h1
   have HE : Hid (true = R) := by show _ = _; rw [← HR.out]; simp
   go_enter Tryz.func156, Tryz.ntmps156
   go_wp2_with (go_at_call 99; refine (KC.out _).mono ?_; rintro e w1 ⟨rfl, hb1⟩; have q0 : w1.cell? ⟨w.heap.size, 0, none⟩ = some (.int .i64 0) := cL hb1 (by go_simp))
   go_ret
   exact ⟨ret_bool HE.out, hb0.trans (hb1.mono hb0.size)⟩
  ·have h1' : (ck == 0) = false := by simpa using h1
   by_cases h2 : ck = col
   ·subst h2
    have HE : Hid (true = R) := by show _ = _; rw [← HR.out]; simp
    go_enter Tryz.func156, Tryz.ntmps156
    go_wp2_with (go_at_call 99; refine (KC.out _).mono ?_; rintro e w1 ⟨rfl, hb1⟩; have q0 : w1.cell? ⟨w.heap.size, 0, none⟩ = some (.int .i64 ck) := cL hb1 (by go_simp))
    go_ret
    exact ⟨ret_bool HE.out, hb0.trans (hb1.mono hb0.size)⟩
   ·have h2' : (ck == col) = false := by simpa using h2
    have HE : Hid (false = R) := by show _ = _; rw [← HR.out]; simp [h1, h2]
    go_enter Tryz.func156, Tryz.ntmps156
    go_wp2_with (go_at_call 99; refine (KC.out _).mono ?_; rintro e w1 ⟨rfl, hb1⟩; have q0 : w1.cell? ⟨w.heap.size, 0, none⟩ = some (.int .i64 ck) := cL hb1 (by go_simp))
    go_ret
    exact ⟨ret_bool HE.out, hb0.trans (hb1.mono hb0.size)⟩
 ·have h0' : (E == 0) = false := by simpa using h0
  have HE : Hid (false = R) := by show _ = _; rw [← HR.out]; simp [h0]
  go_enter Tryz.func156, Tryz.ntmps156
  go_wp2_with (go_at_call 99; refine (KC.out _).mono ?_; rintro e w1 ⟨rfl, hb1⟩)
  go_ret
  exact ⟨ret_bool HE.out, hb0.trans (hb1.mono hb0.size)⟩
theorem talsB_no {col rest : Int} {l : List Tal} {k : Nat} (h : k < l.length) (ht : talB col rest (prevOf l k) (l.getD k default) = false) : talsB col rest (prevOf l k) (l.drop k) = false := by
 rw [tals_step h, ht]; rfl
theorem talsB_yes {col rest : Int} {l : List Tal} {k : Nat} (h : k < l.length) (ht : talB col rest (prevOf l k) (l.getD k default) = true) : talsB col rest (prevOf l k) (l.drop k) = talsB col (rest - (l.getD k default).2) (prevOf l (k + 1)) (l.drop (k + 1)) := by
 rw [tals_step h, ht, Bool.true_and]
set_option maxRecDepth 100000 in
set_option maxHeartbeats 8000000 in
theorem talliesRight_any (a : Option Addr) (cap : Nat) (l : List Tal) (col n : Int) (w : World) (hl : l.length ≤ 9223372036854775807) (ha : bagAt w a l) (hn : i64 n) (hw : ∀ t ∈ l, t.1.s.size ≤ maxLen ∧ i64 t.1.n ∧ i64 t.2) :
 Calls Tryz.prog 127 #[.slice a l.length cap, .int .i64 col, .int .i64 n] w fun e w' => e = .returned (.bool (talsB col n none l)) ∧ Below w.heap.size w w' := by
 have HA : Hid (bagAt w a l) := ha
 have HW : Hid (∀ k, k < l.length → (l.getD k default).1.s.size ≤ maxLen ∧ i64 (l.getD k default).2) := fun k hk => by
  have := hw (l.getD k default) (by rw [List.getD_eq_getElem?_getD, List.getElem?_eq_getElem hk]; exact List.getElem_mem hk)
  exact ⟨this.1, this.2.2⟩
 obtain ⟨R, hR⟩ : ∃ z, talsB col n none l = z := ⟨_, rfl⟩
 have HR0 : Hid (talsB col n (prevOf l 0) (l.drop 0) = R) := hR
 rw [hR]
 clear hR ha hw
 obtain ⟨ln, hln⟩ : ∃ z, l.length = z := ⟨_, rfl⟩
 have HN : Hid (l.length = ln) := hln
 rw [hln] at hl ⊢
 clear hln
 obtain ⟨hn1, hn2⟩ := hn
 go_enter Tryz.func127, Tryz.ntmps127
 go_wp2
 go_loopw [7, 13] (fun rr t wr => ∃ (k : Nat) (r : Int), k ≤ ln ∧ t = .int .i64 k ∧ rr = .int .i64 r ∧ i64 r ∧ talsB col r (prevOf l k) (l.drop k) = R ∧ Below w.heap.size w wr) (fun _ t _ => ln - (intOf t).toNat)
 case atStart => exact ⟨0, n, Nat.zero_le _, rfl, rfl, ⟨hn1, hn2⟩, HR0.out, bR⟩
 case round =>
  obtain ⟨k, r, hk, rfl, rfl, hr, hst, hbr⟩ := hrel
  have HST : Hid (talsB col r (prevOf l k) (l.drop k) = R) := hst
  obtain ⟨hr1, hr2⟩ := hr
  clear hst
  by_cases hlt : k < ln
  ·have hk2 : k < l.length := by rw [HN.out]; exact hlt
   obtain ⟨b3, o3, e3, m1, m2, m3, m4⟩ := HA.out k hk2
   have HPV : Hid (∀ j, k = j + 1 → ∃ b o, a = some ⟨b, o, none⟩ ∧ wr.cell? ⟨b, o + j * 4, none⟩ = some (.int .i64 (l.getD j default).1.k) ∧ wr.cell? ⟨b, o + j * 4 + 1, none⟩ = some (.int .i64 (l.getD j default).1.n) ∧ wr.cell? ⟨b, o + j * 4 + 2, none⟩ = some (.string (l.getD j default).1.s)) := fun j hj => by
    obtain ⟨b, o, e, x1, x2, x3, x4⟩ := HA.out j (by omega)
    exact ⟨b, o, e, cL hbr x1, cL hbr x2, cL hbr x3⟩
   obtain ⟨hw1, hw2, hw3⟩ := HW.out k hk2
   subst e3
   have p1 := cL hbr m1
   have p2 := cL hbr m2
   have p3 := cL hbr m3
   have p4 := cL hbr m4
   have lb3 : b3 < wr.heap.size := World.block_lt_of_cell? _ _ p1
   have i1 : (0 : Int) ≤ (k : Int) := by omega
   have i2 : (k : Int) < (ln : Int) := by omega
   have HNO : Hid (talB col r (prevOf l k) (l.getD k default) = false → false = R) := fun h => by rw [← HST.out]; exact (talsB_no hk2 h).symm
   have HYES : Hid (talB col r (prevOf l k) (l.getD k default) = true → talsB col (r - (l.getD k default).2) (prevOf l (k + 1)) (l.drop (k + 1)) = R) := fun h => by rw [← HST.out]; exact (talsB_yes hk2 h).symm
   have KV : Hid (∀ w1, Calls Tryz.prog 156 #[celV (l.getD k default).1, .int .i64 col] w1 fun e w' => e = .returned (.bool (valB (l.getD k default).1 col)) ∧ Below w1.heap.size w1 w') := fun w1 => valueRight_any _ _ w1 hw1
   obtain ⟨⟨⟨xk, xn, xs⟩, xm⟩, hx⟩ : ∃ z, l.getD k default = z := ⟨_, rfl⟩
   rw [hx] at p1 p2 p3 p4 HNO HYES KV hw2 hw3
   unfold celV at KV
   dsimp only at p1 p2 p3 p4 KV HYES hw2 hw3
   obtain ⟨VB, hVB⟩ : ∃ z, valB ⟨xk, xn, xs⟩ col = z := ⟨_, rfl⟩
   have HVB : Hid (valB ⟨xk, xn, xs⟩ col = VB) := hVB
   rw [hVB] at KV
   clear hx m1 m2 m3 m4 hVB hw1
   cases VB with
   | false =>
    have HE : Hid (false = R) := HNO.out (by unfold talB; rw [HVB.out]; simp)
    go_wp2_with (go_at_call 156; refine (KV.out _).mono ?_; rintro e w1 ⟨rfl, hb1⟩; have s0 : w1.cell? ⟨wr.heap.size, 0, none⟩ = some (.int .i64 xk) := cL hb1 (by go_simp); have s1 : w1.cell? ⟨wr.heap.size, 1, none⟩ = some (.int .i64 xn) := cL hb1 (by go_simp); have s2 : w1.cell? ⟨wr.heap.size, 2, none⟩ = some (.string xs) := cL hb1 (by go_simp); have s3 : w1.cell? ⟨wr.heap.size, 3, none⟩ = some (.int .i64 xm) := cL hb1 (by go_simp); have hbz : Below w.heap.size w w1 := (hbr.alloc hbr.size _).trans (hb1.mono (by have := hbr.size; simp <;> omega)); have lz : wr.heap.size < w1.heap.size := World.block_lt_of_cell? _ _ s0; have hbb : Below wr.heap.size wr w1 := (bR.alloc nR _).trans (hb1.mono (by simp)))
    go_ret
    exact ⟨ret_bool HE.out, hbz⟩
   | true =>
    by_cases h1 : xm < 1
    ·have HE : Hid (false = R) := HNO.out (by unfold talB; simp; intros; omega)
     go_wp2_with (go_at_call 156; refine (KV.out _).mono ?_; rintro e w1 ⟨rfl, hb1⟩; have s0 : w1.cell? ⟨wr.heap.size, 0, none⟩ = some (.int .i64 xk) := cL hb1 (by go_simp); have s1 : w1.cell? ⟨wr.heap.size, 1, none⟩ = some (.int .i64 xn) := cL hb1 (by go_simp); have s2 : w1.cell? ⟨wr.heap.size, 2, none⟩ = some (.string xs) := cL hb1 (by go_simp); have s3 : w1.cell? ⟨wr.heap.size, 3, none⟩ = some (.int .i64 xm) := cL hb1 (by go_simp); have hbz : Below w.heap.size w w1 := (hbr.alloc hbr.size _).trans (hb1.mono (by have := hbr.size; simp <;> omega)); have lz : wr.heap.size < w1.heap.size := World.block_lt_of_cell? _ _ s0; have hbb : Below wr.heap.size wr w1 := (bR.alloc nR _).trans (hb1.mono (by simp)))
     go_ret
     exact ⟨ret_bool HE.out, hbz⟩
    ·by_cases h2 : xm > r
     ·have HE : Hid (false = R) := HNO.out (by unfold talB; simp; intros; omega)
      go_wp2_with (go_at_call 156; refine (KV.out _).mono ?_; rintro e w1 ⟨rfl, hb1⟩; have s0 : w1.cell? ⟨wr.heap.size, 0, none⟩ = some (.int .i64 xk) := cL hb1 (by go_simp); have s1 : w1.cell? ⟨wr.heap.size, 1, none⟩ = some (.int .i64 xn) := cL hb1 (by go_simp); have s2 : w1.cell? ⟨wr.heap.size, 2, none⟩ = some (.string xs) := cL hb1 (by go_simp); have s3 : w1.cell? ⟨wr.heap.size, 3, none⟩ = some (.int .i64 xm) := cL hb1 (by go_simp); have hbz : Below w.heap.size w w1 := (hbr.alloc hbr.size _).trans (hb1.mono (by have := hbr.size; simp <;> omega)); have lz : wr.heap.size < w1.heap.size := World.block_lt_of_cell? _ _ s0; have hbb : Below wr.heap.size wr w1 := (bR.alloc nR _).trans (hb1.mono (by simp)))
      go_ret
      exact ⟨ret_bool HE.out, hbz⟩
     ·have hw4 : IntKind.i64.wrap (r - xm) = r - xm := by rw [IntKind.wrap_i64]; omega
      by_cases hk0 : k = 0
      ·have HY : Hid (talsB col (r - xm) (prevOf l (k + 1)) (l.drop (k + 1)) = R) := HYES.out (by unfold talB; rw [HVB.out, show prevOf l k = none from if_pos hk0]; simp; omega)
       have i6 : decide (0 < k) = false := by simp; omega
       have hw5 : i64 (r - xm) := ⟨by omega, by omega⟩
       have HW5 : Hid (i64 (r - xm)) := hw5
       clear hk0 hw5
       go_wp2_with (go_at_call 156; refine (KV.out _).mono ?_; rintro e w1 ⟨rfl, hb1⟩; have s0 : w1.cell? ⟨wr.heap.size, 0, none⟩ = some (.int .i64 xk) := cL hb1 (by go_simp); have s1 : w1.cell? ⟨wr.heap.size, 1, none⟩ = some (.int .i64 xn) := cL hb1 (by go_simp); have s2 : w1.cell? ⟨wr.heap.size, 2, none⟩ = some (.string xs) := cL hb1 (by go_simp); have s3 : w1.cell? ⟨wr.heap.size, 3, none⟩ = some (.int .i64 xm) := cL hb1 (by go_simp); have hbz : Below w.heap.size w w1 := (hbr.alloc hbr.size _).trans (hb1.mono (by have := hbr.size; simp <;> omega)); have lz : wr.heap.size < w1.heap.size := World.block_lt_of_cell? _ _ s0; have hbb : Below wr.heap.size wr w1 := (bR.alloc nR _).trans (hb1.mono (by simp)))
       go_quiet (fail)
       have hq := pl.below_dn hbz nq
       have hqq := pl.below_dn (Below.refl w1.heap.size w1) nq
       generalize (w1.drewN nq) = W2 at hq hqq ⊢
       have t3 := cL hqq s3
       go_wp2
       go_roundw
       case rel => exact ⟨k + 1, r - xm, by omega, by go_num, rfl, HW5.out, HY.out, hq⟩
       case measure => simp [intOf]; omega
      ·obtain ⟨j, hj⟩ : ∃ j, k = j + 1 := ⟨k - 1, by omega⟩
       obtain ⟨b4, o4, e4, z1, z2, z3⟩ := HPV.out j hj
       injection e4 with e4
       injection e4 with e5 e6
       subst e5 e6
       have i6 : decide (0 < k) = true := by simp; omega
       have i7 : IntKind.i64.wrap ((k : Int) - 1) = (j : Int) := by rw [IntKind.wrap_i64]; omega
       have i8 : (0 : Int) ≤ (j : Int) := by omega
       have i9 : (j : Int) < (ln : Int) := by omega
       have HPJ : Hid (prevOf l k = some (l.getD j default).1) := by show _ = _; rw [hj]; rfl
       obtain ⟨⟨qk, qn, qs⟩, hq0⟩ : ∃ z, (l.getD j default).1 = z := ⟨_, rfl⟩
       rw [hq0] at z1 z2 z3 HPJ
       dsimp only at z1 z2 z3
       have KC : Hid (∀ w1, Calls Tryz.prog 124 #[.agg #[.int .i64 qk, .int .i64 qn, .string qs], .agg #[.int .i64 xk, .int .i64 xn, .string xs]] w1 fun e w' => e = .returned (.int .i64 (cmpC ⟨qk, qn, qs⟩ ⟨xk, xn, xs⟩)) ∧ Below w1.heap.size w1 w') := fun w1 => compare_any qk qn qs xk xn xs w1
       obtain ⟨CV, hCV⟩ : ∃ z, cmpC ⟨qk, qn, qs⟩ ⟨xk, xn, xs⟩ = z := ⟨_, rfl⟩
       have HCV : Hid (cmpC ⟨qk, qn, qs⟩ ⟨xk, xn, xs⟩ = CV) := hCV
       rw [hCV] at KC
       clear hCV hq0 hj hk0
       by_cases h3 : CV < 0
       ·have HY : Hid (talsB col (r - xm) (prevOf l (k + 1)) (l.drop (k + 1)) = R) := HYES.out (by unfold talB; rw [HVB.out, HPJ.out]; simp [HCV.out, h3]; omega)
        have HW5 : Hid (i64 (r - xm)) := ⟨by omega, by omega⟩
        have h3' : ¬ (CV ≥ 0) := by omega
        go_wp2_with (go_at_call 156; refine (KV.out _).mono ?_; rintro e w1 ⟨rfl, hb1⟩; have s0 : w1.cell? ⟨wr.heap.size, 0, none⟩ = some (.int .i64 xk) := cL hb1 (by go_simp); have s1 : w1.cell? ⟨wr.heap.size, 1, none⟩ = some (.int .i64 xn) := cL hb1 (by go_simp); have s2 : w1.cell? ⟨wr.heap.size, 2, none⟩ = some (.string xs) := cL hb1 (by go_simp); have s3 : w1.cell? ⟨wr.heap.size, 3, none⟩ = some (.int .i64 xm) := cL hb1 (by go_simp); have hbz : Below w.heap.size w w1 := (hbr.alloc hbr.size _).trans (hb1.mono (by have := hbr.size; simp <;> omega)); have lz : wr.heap.size < w1.heap.size := World.block_lt_of_cell? _ _ s0; have hbb : Below wr.heap.size wr w1 := (bR.alloc nR _).trans (hb1.mono (by simp)))
        have v1 := cL hbb z1
        have v2 := cL hbb z2
        have v3 := cL hbb z3
        go_region_held3 (fun w' => w'.cell? ⟨b3, o3 + j * 4, none⟩ = some (.int .i64 qk) ∧ w'.cell? ⟨b3, o3 + j * 4 + 1, none⟩ = some (.int .i64 qn) ∧ w'.cell? ⟨b3, o3 + j * 4 + 2, none⟩ = some (.string qs) ∧ w'.cell? ⟨wr.heap.size, 0, none⟩ = some (.int .i64 xk) ∧ w'.cell? ⟨wr.heap.size, 1, none⟩ = some (.int .i64 xn) ∧ w'.cell? ⟨wr.heap.size, 2, none⟩ = some (.string xs) ∧ w'.cell? ⟨wr.heap.size, 3, none⟩ = some (.int .i64 xm)) (first | exact ⟨cL hq1 v1, cL hq1 v2, cL hq1 v3, cL hq1 s0, cL hq1 s1, cL hq1 s2, cL hq1 s3⟩ | go_keep | (refine ⟨?_, ?_, ?_, ?_, ?_, ?_, ?_⟩ <;> go_keep))
         (first | (go_at_call 124; refine (KC.out w1.drew).mono ?_; rintro e y1 ⟨rfl, hy1⟩; have hq1 : Below w1.heap.size w1 y1 := bR.drew.trans hy1; have t3 := cL hq1 s3))
        all_goals
         go_wp2
         go_roundw
         case rel => exact ⟨k + 1, r - xm, by omega, by go_num, rfl, HW5.out, HY.out, hbz.trans (hq1.mono hbz.size)⟩
         case measure => simp [intOf]; omega
       ·have HE : Hid (false = R) := HNO.out (by unfold talB; rw [HPJ.out]; simp [HCV.out]; intros; omega)
        have h3' : CV ≥ 0 := by omega
        go_wp2_with (go_at_call 156; refine (KV.out _).mono ?_; rintro e w1 ⟨rfl, hb1⟩; have s0 : w1.cell? ⟨wr.heap.size, 0, none⟩ = some (.int .i64 xk) := cL hb1 (by go_simp); have s1 : w1.cell? ⟨wr.heap.size, 1, none⟩ = some (.int .i64 xn) := cL hb1 (by go_simp); have s2 : w1.cell? ⟨wr.heap.size, 2, none⟩ = some (.string xs) := cL hb1 (by go_simp); have s3 : w1.cell? ⟨wr.heap.size, 3, none⟩ = some (.int .i64 xm) := cL hb1 (by go_simp); have hbz : Below w.heap.size w w1 := (hbr.alloc hbr.size _).trans (hb1.mono (by have := hbr.size; simp <;> omega)); have lz : wr.heap.size < w1.heap.size := World.block_lt_of_cell? _ _ s0; have hbb : Below wr.heap.size wr w1 := (bR.alloc nR _).trans (hb1.mono (by simp)))
        have v1 := cL hbb z1
        have v2 := cL hbb z2
        have v3 := cL hbb z3
        go_region_held3 (fun w' => w'.cell? ⟨b3, o3 + j * 4, none⟩ = some (.int .i64 qk) ∧ w'.cell? ⟨b3, o3 + j * 4 + 1, none⟩ = some (.int .i64 qn) ∧ w'.cell? ⟨b3, o3 + j * 4 + 2, none⟩ = some (.string qs) ∧ w'.cell? ⟨wr.heap.size, 0, none⟩ = some (.int .i64 xk) ∧ w'.cell? ⟨wr.heap.size, 1, none⟩ = some (.int .i64 xn) ∧ w'.cell? ⟨wr.heap.size, 2, none⟩ = some (.string xs) ∧ w'.cell? ⟨wr.heap.size, 3, none⟩ = some (.int .i64 xm)) (first | exact ⟨cL hq1 v1, cL hq1 v2, cL hq1 v3, cL hq1 s0, cL hq1 s1, cL hq1 s2, cL hq1 s3⟩ | go_keep | (refine ⟨?_, ?_, ?_, ?_, ?_, ?_, ?_⟩ <;> go_keep))
         (first | (go_at_call 124; refine (KC.out w1.drew).mono ?_; rintro e y1 ⟨rfl, hy1⟩; have hq1 : Below w1.heap.size w1 y1 := bR.drew.trans hy1; have t3 := cL hq1 s3))
        all_goals
         go_wp2
         go_ret
         exact ⟨ret_bool HE.out, hbz.trans (hq1.mono hbz.size)⟩
  ·have hke : k = ln := by omega
   have HE : Hid (decide (r = 0) = R) := by show _ = _; rw [← HST.out]; exact (tals_end (by rw [HN.out]; omega)).symm
   go_wp2
   go_ret
   first
    | exact ⟨ret_bool HE.out, hbr⟩
    | exact ⟨ret_bool (by rw [← HE.out]; simp), hbr⟩
end Go.Proofs.YtbfbgdinhiglaaaGreat.gr
