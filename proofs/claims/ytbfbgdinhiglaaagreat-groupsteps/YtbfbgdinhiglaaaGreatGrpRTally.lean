import Derived.Test.YtbfbgdinhiglaaaGreatS29
import Derived.Test.YtbfbgdinhiglaaaGreatS20
import Derived.Test.YtbfbgdinhiglaaaGreatS15
import Derived.Test.YtbfbgdinhiglaaaGreatGrpToldA
import Derived.Deep.DeepCutAuto
import Derived.Deep.CutBlock
namespace Go.Proofs.YtbfbgdinhiglaaaGreat.gr
open Go.ChangeShapes Go.WideShapes Go.ChangeAt Go.RowKit
open vl pl bt
set_option linter.unusedVariables false
set_option linter.unusedSimpArgs false
attribute [local go_sem] Oper.semAt_some
theorem while_at {α : Type} [Inhabited α] (f : α → Bool) : ∀ (l : List α), (∀ k, k < (l.takeWhile f).length → f (l.getD k default) = true) ∧ ((l.takeWhile f).length < l.length → f (l.getD (l.takeWhile f).length default) = false)
 | [] => ⟨fun k hk => absurd hk (Nat.not_lt_zero k), fun h => absurd h (Nat.not_lt_zero _)⟩
 | a :: l => by
  obtain ⟨h1, h2⟩ := while_at f l
  cases ha : f a with
  | false =>
   have e : (a :: l).takeWhile f = [] := by rw [List.takeWhile_cons, if_neg (by simp [ha])]
   rw [e]
   exact ⟨fun k hk => absurd hk (Nat.not_lt_zero k), fun _ => by simpa using ha⟩
  | true =>
   have e : (a :: l).takeWhile f = a :: l.takeWhile f := by rw [List.takeWhile_cons, if_pos ha]
   rw [e]
   refine ⟨fun k hk => ?_, fun hk => ?_⟩
   ·cases k with
    | zero => simpa using ha
    | succ k => simpa using h1 k (by simpa using hk)
   ·simpa using h2 (by simpa using hk)
theorem idxT_lt {l : List Tal} {c : Cel} {k : Nat} (h : k < idxT l c) : cmpC (l.getD k default).1 c < 0 := by
 have := (while_at (fun t : Tal => decide (cmpC t.1 c < 0)) l).1 k h
 simpa only [decide_eq_true_eq] using this
theorem idxT_ge {l : List Tal} {c : Cel} (h : idxT l c < l.length) : ¬ cmpC (l.getD (idxT l c) default).1 c < 0 := by
 have := (while_at (fun t : Tal => decide (cmpC t.1 c < 0)) l).2 h
 rw [decide_eq_false_iff_not] at this
 exact this
def talR (d : Int) (l : List Tal) (c : Cel) : List Tal := if d = 1 then addT l c else if hasT l c = true then subT l c else l
def talOk (d : Int) (l : List Tal) (c : Cel) : Bool := decide (d = 1) || hasT l c
def tallyRes (d : Int) (l : List Tal) (c : Cel) (v : Value) (base : Nat) (w : World) (e : Ending) (w' : World) : Prop := ∃ ad' n' cap', e = .returned (.tuple #[.slice ad' n' cap', .bool (talOk d l c)]) ∧ ownT w' base (.slice ad' n' cap') (talR d l c) ∧ w.heap.size ≤ w'.heap.size ∧ (∀ b, b < w.heap.size → v.ownBlock ≠ some b → w'.heap[b]? = w.heap[b]?) ∧ (∀ g, (Value.slice ad' n' cap').ownBlock = some g → v.ownBlock = some g ∨ w.heap.size ≤ g) ∧ Below base w w'
theorem has_is {l : List Tal} {c : Cel} (hq : ∀ t ∈ l, cmpC t.1 c = 0 ↔ t.1 = c) (h : idxT l c < l.length) : hasT l c = decide ((l.getD (idxT l c) default).1 = c) := by
 unfold hasT
 rw [decide_eq_true h, Bool.true_and, decide_eq_decide]
 exact hq _ (by rw [List.getD_eq_getElem?_getD, List.getElem?_eq_getElem h]; exact List.getElem_mem h)
theorem has_no {l : List Tal} {c : Cel} (h : ¬ idxT l c < l.length) : hasT l c = false := by
 unfold hasT
 rw [decide_eq_false h, Bool.false_and]
theorem set_four (A B y : List Value) (a b c d : Value) (p : Nat) (hA : A.length = p * 4) (hy : y.length = 4) : ((((A ++ y ++ B).set (p * 4) a).set (p * 4 + 1) b).set (p * 4 + 2) c).set (p * 4 + 3) d = A ++ [a, b, c, d] ++ B := by
 match y, hy with
 | [y0, y1, y2, y3], _ =>
  rw [← hA, List.append_assoc, List.append_assoc]
  have s0 : ∀ (k : Nat) (u : Value) (L : List Value), (A ++ L).set (A.length + k) u = A ++ L.set k u := fun k u L => by
   rw [List.set_append_right _ _ (by omega)]; congr 2; omega
  have := s0 0
  simp only [Nat.add_zero] at this
  rw [this, s0, s0, s0]
  rfl
theorem own_four {w : World} {base g n cap p : Nat} {A B y : List Value} (h : w.ownsRow base 82 4 (.slice (some ⟨g, 0, none⟩) n cap) n (A ++ y ++ B)) (hA : A.length = p * 4) (hy : y.length = 4) (a b c d : Value) :
 ((((w.setCell ⟨g, p * 4, none⟩ a).setCell ⟨g, p * 4 + 1, none⟩ b).setCell ⟨g, p * 4 + 2, none⟩ c).setCell ⟨g, p * 4 + 3, none⟩ d).ownsRow base 82 4 (.slice (some ⟨g, 0, none⟩) n cap) n (A ++ [a, b, c, d] ++ B) := by
 have hl := h.1
 rw [List.length_append, List.length_append, hA, hy] at hl
 have h1 := ch.own_set (ch.own_set (ch.own_set (ch.own_set h (p * 4) (by omega) a) (p * 4 + 1) (by omega) b) (p * 4 + 2) (by omega) c) (p * 4 + 3) (by omega) d
 rw [set_four A B y a b c d p hA hy] at h1
 exact h1
theorem four_cells {w : World} {base g n cap p : Nat} {A B y : List Value} (h : w.ownsRow base 82 4 (.slice (some ⟨g, 0, none⟩) n cap) n (A ++ y ++ B)) (hA : A.length = p * 4) (hy : y.length = 4) :
 (∃ u, w.cell? ⟨g, p * 4, none⟩ = some u) ∧ (∃ u, w.cell? ⟨g, p * 4 + 1, none⟩ = some u) ∧ (∃ u, w.cell? ⟨g, p * 4 + 1 + 1, none⟩ = some u) ∧ (∃ u, w.cell? ⟨g, p * 4 + 1 + 1 + 1, none⟩ = some u) := by
 have hc := World.ownsRow.cells h (g := g) rfl
 have one : ∀ j, j < 4 → ∃ u, w.cell? ⟨g, p * 4 + j, none⟩ = some u := fun j hj => by
  have hj2 : j < y.length := by omega
  have := hc (p * 4 + j) y[j] (by rw [List.append_assoc, List.getElem?_append_right (by omega), hA, Nat.add_sub_cancel_left, List.getElem?_append_left hj2, List.getElem?_eq_getElem hj2])
  rw [ch.add_at, Nat.zero_add] at this
  exact ⟨_, this⟩
 exact ⟨one 0 (by omega), one 1 (by omega), one 2 (by omega), one 3 (by omega)⟩
theorem ret_tal {v : Value} {a b : Bool} (h : a = b) : Ending.returned (.tuple #[v, .bool a]) = .returned (.tuple #[v, .bool b]) := by rw [h]
theorem cell_blk2 {w w' : World} {b : Nat} (h : w'.heap[b]? = w.heap[b]?) (j : Nat) : w'.cell? ⟨b, j, none⟩ = w.cell? ⟨b, j, none⟩ := by simp [World.cell?, h]
theorem tal_mid (l : List Tal) (p : Nat) (h : p < l.length) : talCells l = talCells (l.take p) ++ [.int .i64 (l.getD p default).1.k, .int .i64 (l.getD p default).1.n, .string (l.getD p default).1.s, .int .i64 (l.getD p default).2] ++ talCells (l.drop (p + 1)) := by
 have e : l = l.take p ++ l.getD p default :: l.drop (p + 1) := split_at l p default h
 conv => lhs; rw [e]
 rw [talCells_app2, List.append_assoc]
 rfl
set_option maxRecDepth 100000 in
set_option maxHeartbeats 8000000 in
theorem tally_any (ad : Option Addr) (cap : Nat) (l : List Tal) (c : Cel) (d : Int) (base : Nat) (w : World) (ho : ownT w base (.slice ad l.length cap) l) (hlow : base ≤ w.heap.size) (hl : l.length ≤ 1073741824) (hd : d = 1 ∨ d = -1) (hq : ∀ t ∈ l, cmpC t.1 c = 0 ↔ t.1 = c) (hN : ∀ t ∈ l, 1 ≤ t.2 ∧ t.2 ≤ 1099511627776) :
 Calls Tryz.prog 92 #[.slice ad l.length cap, .agg #[.int .i64 c.k, .int .i64 c.n, .string c.s], .int .i64 d] w fun e w' => tallyRes d l c (.slice ad l.length cap) base w e w' := by
 have HC : Hid (∀ i, i < l.length → ∃ b o, ad = some ⟨b, o, none⟩ ∧ w.cell? ⟨b, o + i * 4, none⟩ = some (.int .i64 (l.getD i default).1.k) ∧ w.cell? ⟨b, o + i * 4 + 1, none⟩ = some (.int .i64 (l.getD i default).1.n) ∧ w.cell? ⟨b, o + i * 4 + 1 + 1, none⟩ = some (.string (l.getD i default).1.s) ∧ w.cell? ⟨b, o + i * 4 + 3, none⟩ = some (.int .i64 (l.getD i default).2)) := fun i hi => (ownT_at ho).1 i hi
 have HLT : Hid (∀ k, k < idxT l c → cmpC (l.getD k default).1 c < 0) := fun k hk => idxT_lt hk
 have HGE : Hid (idxT l c < l.length → ¬ cmpC (l.getD (idxT l c) default).1 c < 0) := fun h => idxT_ge h
 have HIS : Hid (idxT l c < l.length → hasT l c = decide ((l.getD (idxT l c) default).1 = c)) := has_is hq
 have HNO : Hid (¬ idxT l c < l.length → hasT l c = false) := has_no
 have hpn := idx_le l c
 have HRA : Hid (∀ p, idxT l c = p → (hasT l c = false → addT l c = l.take p ++ (c, 1) :: l.drop p) ∧ (hasT l c = true → addT l c = l.set p ((l.getD p default).1, (l.getD p default).2 + 1)) ∧ ((l.getD p default).2 - 1 = 0 → subT l c = l.take p ++ l.drop (p + 1)) ∧ ((l.getD p default).2 - 1 ≠ 0 → subT l c = l.set p ((l.getD p default).1, (l.getD p default).2 - 1))) := fun p hp => by
  unfold addT subT
  rw [hp]
  exact ⟨fun h => by rw [if_neg (by rw [h]; decide)], fun h => if_pos h, fun h => if_pos h, fun h => if_neg h⟩
 have HNN : Hid (∀ k, k < l.length → 1 ≤ (l.getD k default).2 ∧ (l.getD k default).2 ≤ 1099511627776) := fun k hk => hN _ (by rw [List.getD_eq_getElem?_getD, List.getElem?_eq_getElem hk]; exact List.getElem_mem hk)
 obtain ⟨p, hp⟩ : ∃ z, idxT l c = z := ⟨_, rfl⟩
 have HP : Hid (idxT l c = p) := hp
 obtain ⟨IS, hIS⟩ : ∃ z, hasT l c = z := ⟨_, rfl⟩
 have HI : Hid (hasT l c = IS) := hIS
 obtain ⟨n, hn⟩ : ∃ z, l.length = z := ⟨_, rfl⟩
 have HLN : Hid (l.length = n) := hn
 have HO : Hid (w.ownsRow base 82 4 (.slice ad n cap) n (talCells l)) := by have := ho; unfold ownT at this; rw [hn] at this; exact this
 rw [hn] at HC HGE HIS HNO HNN hl hpn ⊢
 rw [hp] at HLT HGE HIS HNO hpn
 rw [hIS] at HIS HNO
 clear ho hq hN hp hIS hn
 obtain ⟨ck, cn, cs⟩ := c
 dsimp only
 go_enter Tryz.func92, Tryz.ntmps92
 go_upto_block 0 with fail
 generalize hV : (World.alloc w _) = V
 have hbV : Below w.heap.size w V := by rw [← hV]; exact bR.alloc nR _
 have c0 : V.cell? ⟨w.heap.size, 0, none⟩ = some (.int .i64 ck) := by subst hV; go_simp
 have c1 : V.cell? ⟨w.heap.size, 1, none⟩ = some (.int .i64 cn) := by subst hV; go_simp
 have c2 : V.cell? ⟨w.heap.size, 2, none⟩ = some (.string cs) := by subst hV; go_simp
 clear hV
 go_cut [8] (fun i wc => i = .int .i64 (p : Nat) ∧ Below V.heap.size V wc)
 case first =>
  go_wp2_with fail
  go_loopw [8] (fun i wr => ∃ k : Nat, k ≤ p ∧ i = .int .i64 k ∧ Below V.heap.size V wr) (fun i _ => p - (intOf i).toNat)
  case atStart => exact ⟨0, Nat.zero_le _, rfl, bR⟩
  case round =>
   obtain ⟨k, hk, rfl, hnx⟩ := hrel
   have d0 := cL hnx c0
   have d1 := cL hnx c1
   have d2 := cL hnx c2
   by_cases hkn : k < n
   ·obtain ⟨b, o, e, x1, x2, x3, x4⟩ := HC.out k hkn
    subst e
    have q1 := cL hnx (cL hbV x1)
    have q2 := cL hnx (cL hbV x2)
    have q3 := cL hnx (cL hbV x3)
    have i1 : (0 : Int) ≤ (k : Int) := by omega
    have i2 : (k : Int) < (n : Int) := by omega
    have hlt : k < p → cmpC (l.getD k default).1 ⟨ck, cn, cs⟩ < 0 := HLT.out k
    have hge : k = p → ¬ cmpC (l.getD k default).1 ⟨ck, cn, cs⟩ < 0 := fun e => by rw [e]; have := HGE.out (by omega); omega
    clear x1 x2 x3 x4
    obtain ⟨⟨⟨tk, tn, ts⟩, tN⟩, ht⟩ : ∃ z, l.getD k default = z := ⟨_, rfl⟩
    rw [ht] at q1 q2 q3 hlt hge
    have KC : Hid (∀ w1, Calls Tryz.prog 63 #[.agg #[.int .i64 tk, .int .i64 tn, .string ts], .agg #[.int .i64 ck, .int .i64 cn, .string cs]] w1 fun e w' => e = .returned (.int .i64 (cmpC ⟨tk, tn, ts⟩ ⟨ck, cn, cs⟩)) ∧ Below w1.heap.size w1 w') := fun w1 => vl.rcompare_any tk tn ts ck cn cs w1
    dsimp only at q1 q2 q3 hlt hge
    obtain ⟨z, hz⟩ : ∃ z, cmpC ⟨tk, tn, ts⟩ ⟨ck, cn, cs⟩ = z := ⟨_, rfl⟩
    rw [hz] at KC hlt hge
    clear hz ht
    by_cases hkp : k < p
    ·have hz := hlt hkp
     clear hlt hge
     go_wp2
     go_region_held3 (fun w' => w'.cell? ⟨b, o + k * 4, none⟩ = some (.int .i64 tk) ∧ w'.cell? ⟨b, o + k * 4 + 1, none⟩ = some (.int .i64 tn) ∧ w'.cell? ⟨b, o + k * 4 + 1 + 1, none⟩ = some (.string ts) ∧ w'.cell? ⟨w.heap.size, 0, none⟩ = some (.int .i64 ck) ∧ w'.cell? ⟨w.heap.size, 1, none⟩ = some (.int .i64 cn) ∧ w'.cell? ⟨w.heap.size, 2, none⟩ = some (.string cs)) (first | exact ⟨cL hy q1, cL hy q2, cL hy q3, cL hy d0, cL hy d1, cL hy d2⟩ | go_keep)
      (first | (go_at_call 63; refine (KC.out _).mono ?_; rintro e y1 ⟨rfl, hb1⟩; have hy : Below wr.heap.size wr y1 := bR.drew.trans hb1))
     all_goals
      go_wp2
      go_roundw
      case rel => exact ⟨k + 1, by omega, by go_num, hnx.trans (hy.mono hnx.size)⟩
      case measure => simp [intOf]; omega
    ·have hz := hge (by omega)
     have hkp2 : k = p := by omega
     subst hkp2
     clear hlt hge
     go_wp2
     go_region_held3 (fun w' => w'.cell? ⟨b, o + k * 4, none⟩ = some (.int .i64 tk) ∧ w'.cell? ⟨b, o + k * 4 + 1, none⟩ = some (.int .i64 tn) ∧ w'.cell? ⟨b, o + k * 4 + 1 + 1, none⟩ = some (.string ts) ∧ w'.cell? ⟨w.heap.size, 0, none⟩ = some (.int .i64 ck) ∧ w'.cell? ⟨w.heap.size, 1, none⟩ = some (.int .i64 cn) ∧ w'.cell? ⟨w.heap.size, 2, none⟩ = some (.string cs)) (first | exact ⟨cL hy q1, cL hy q2, cL hy q3, cL hy d0, cL hy d1, cL hy d2⟩ | go_keep)
      (first | (go_at_call 63; refine (KC.out _).mono ?_; rintro e y1 ⟨rfl, hb1⟩; have hy : Below wr.heap.size wr y1 := bR.drew.trans hb1))
     all_goals
      go_wp2
      go_meet
      exact ⟨rfl, hnx.trans (hy.mono hnx.size)⟩
   ·have e1 : k = p := by omega
    have e2 : ¬ ((k : Int) < (n : Int)) := by omega
    subst e1
    go_wp2
    go_quiet (fail)
    go_wp2
    go_meet
    exact ⟨rfl, below_drewN hnx _⟩
 case rest =>
  obtain ⟨rfl, hb1⟩ := hcut
  rename World => W1
  go_upto_region 4 with fail
  go_cut [9] (fun b wc => b = .bool IS ∧ Below V.heap.size V wc)
  case first =>
   have d0 := cL hb1 c0
   have d1 := cL hb1 c1
   have d2 := cL hb1 c2
   by_cases hkn : p < n
   ·obtain ⟨b, o, e, x1, x2, x3, x4⟩ := HC.out p hkn
    subst e
    have q1 := cL hb1 (cL hbV x1)
    have q2 := cL hb1 (cL hbV x2)
    have q3 := cL hb1 (cL hbV x3)
    have i1 : (0 : Int) ≤ (p : Int) := by omega
    have i2 : (p : Int) < (n : Int) := by omega
    have HI2 := HIS.out hkn
    clear x1 x2 x3 x4
    obtain ⟨⟨⟨tk, tn, ts⟩, tN⟩, ht⟩ : ∃ z, l.getD p default = z := ⟨_, rfl⟩
    rw [ht] at q1 q2 q3 HI2
    dsimp only at q1 q2 q3 HI2
    clear ht
    by_cases t1 : tk = ck
    ·by_cases t2 : tn = cn
     ·by_cases t3 : ts.toList = cs.toList
      ·have t3' : ts = cs := ByteArray.ext (Array.ext' (by rwa [Lib.toList_data, Lib.toList_data] at t3))
       have HI3 : Hid (IS = true) := by show _ = _; rw [HI2, t1, t2, t3']; simp
       clear t3 HI2
       subst t1 t2 t3'
       go_wp2
       go_quiet (fail)
       go_wp2
       go_meet
       exact ⟨by rw [HI3.out], below_drewN hb1 _⟩
      ·have HI3 : Hid (IS = false) := by show _ = _; rw [HI2, decide_eq_false]; intro k; injection k with k1 k2 k3; exact t3 (by rw [k3])
       clear HI2
       go_wp2
       go_quiet (fail)
       go_wp2
       go_meet
       exact ⟨by rw [HI3.out], below_drewN hb1 _⟩
     ·have HI3 : Hid (IS = false) := by show _ = _; rw [HI2, decide_eq_false]; intro k; injection k with k1 k2 k3; exact t2 k2
      clear HI2
      go_wp2
      go_quiet (fail)
      go_wp2
      go_meet
      exact ⟨by rw [HI3.out], below_drewN hb1 _⟩
    ·have HI3 : Hid (IS = false) := by show _ = _; rw [HI2, decide_eq_false]; intro k; injection k with k1 k2 k3; exact t1 k1
     clear HI2
     go_wp2
     go_quiet (fail)
     go_wp2
     go_meet
     exact ⟨by rw [HI3.out], below_drewN hb1 _⟩
   ·have HI3 : Hid (IS = false) := HNO.out hkn
    have e2 : ¬ ((p : Int) < (n : Int)) := by omega
    go_wp2
    go_quiet (fail)
    go_wp2
    go_meet
    exact ⟨by rw [HI3.out], below_drewN hb1 _⟩
  case rest =>
   obtain ⟨rfl, hb2⟩ := hcut
   rename World => W2
   clear hb1
   have hw2 : Below w.heap.size w W2 := hbV.trans (hb2.mono hbV.size)
   have d0 := cL hb2 c0
   have d1 := cL hb2 c1
   have d2 := cL hb2 c2
   have HO2 : Hid (W2.ownsRow base 82 4 (.slice ad n cap) n (talCells l)) := ch.own_below HO.out hw2
   have lw : w.heap.size < W2.heap.size := World.block_lt_of_cell? _ _ d0
   cases IS with
   | false =>
    rcases hd with rfl | rfl
    ·-- one more, of a new value
     have HRES : Hid (talR 1 l ⟨ck, cn, cs⟩ = l.take p ++ (⟨ck, cn, cs⟩, 1) :: l.drop p ∧ talOk 1 l ⟨ck, cn, cs⟩ = true) := ⟨by unfold talR; rw [if_pos rfl]; exact (HRA.out p HP.out).1 HI.out, rfl⟩
     obtain ⟨i0, hi0, hz0, hz1, hz2⟩ := info_parts infoT
     have HI0 : Hid (Tryz.prog.info? 82 = some i0 ∧ i0.zero = some (.agg #[.int .i64 0, .int .i64 0, .string ⟨#[]⟩, .int .i64 0]) ∧ i0.size = 4 ∧ i0.bytes = 40) := ⟨hi0, hz0, hz1, hz2⟩
     have HVL : Hid (∀ b, (Value.slice ad n cap).ownBlock = some b → b < w.heap.size) := fun b hb => (ch.own_lt HO.out hb).2
     have hbl : base ≤ W2.heap.size := Nat.le_trans hlow hw2.size
     have hwp : IntKind.i64.wrap ((p : Int) + 1) = (p : Int) + 1 := by rw [IntKind.wrap_i64]; omega
     clear hi0 hz0 hz1 hz2 HRA HC HLT HGE HIS HNO HNN
     go_wp2_with (at_builtin; refine wpList_append_lies _ rfl (.tmp 61) (.tmp 63) 61 rfl base 82 i0 (.agg #[.int .i64 0, .int .i64 0, .string ⟨#[]⟩, .int .i64 0]) 4 40 Tryz.underlying61 HI0.out.1 HI0.out.2.1 HI0.out.2.2.1 HI0.out.2.2.2 rfl (by decide) (.slice ad n cap) n (talCells l) rfl (World.ownsRow.alloc HO2.out _) ⟨W2.heap.size, 0, none⟩ 1 1 [.int .i64 0, .int .i64 0, .string ⟨#[]⟩, .int .i64 0] rfl rfl (cell_four_new _ _ _ _ _ _) (by intro u hu; simp at hu; rcases hu with rfl | rfl | rfl <;> rfl) (by decide) (by unfold maxLen; omega) (by omega) (by simp; omega) (W2.heap.size + 1) (by simp) ?_; intro g cap4 w4 hown4 hgrow4 hat4 hlt4)
     have hcap4 : n + 1 ≤ cap4 := (own_capN hown4).1
     have hg4 := ch.own_lt hown4 (g := g) rfl
     have hsz4 : W2.heap.size ≤ w4.heap.size := by have := hgrow4.size; simp at this; omega
     have hgb : g ≠ w.heap.size := by
      rcases hat4 with h1 | h1
      ·have := HVL.out g h1; omega
      ·omega
     have HGAT : Hid ((Value.slice ad n cap).ownBlock = some g ∨ w.heap.size ≤ g) := by
      rcases hat4 with h1 | h1
      ·exact .inl h1
      ·exact .inr (by omega)
     have hbox4 : w4.heap[w.heap.size]? = W2.heap[w.heap.size]? := by
      rw [hgrow4.block w.heap.size (by simp; omega) (fun e => by have := HVL.out _ e.symm; omega)]
      exact Below.heap_alloc _ _ _ lw
     have HL4 : Hid (∀ k, k < w.heap.size → (Value.slice ad n cap).ownBlock ≠ some k → w4.heap[k]? = w.heap[k]?) := fun k hk hne => by
      rw [hgrow4.block k (by simp; omega) (fun e => hne e.symm), Below.heap_alloc _ _ _ (by omega)]
      exact hw2.block k hk
     have HB4 : Hid (Below base w w4) := ch.below_app (hw2.mono hlow) hbl HO2.out hgrow4
     obtain ⟨bl, hbl2⟩ : ∃ z, n - p = z := ⟨_, rfl⟩
     have hsum : p + bl = n := by omega
     obtain ⟨e2, hf2n, hd2⟩ := backTl g (n + 1) cap4 (p + 1) (by omega) hcap4
     obtain ⟨s2, hf3n, hs2⟩ := backTl g (n + 1) cap4 p (by omega) hcap4
     rw [show n + 1 - (p + 1) = bl by omega] at hf2n
     rw [show n + 1 - p = bl + 1 by omega] at hf3n
     have hf2 : ∀ w, (Instr.sliceAt 61 (.slice (some ⟨g, 0, none⟩) (n + 1) cap4) (some (.int .i64 ((p : Int) + 1))) none none).run Tryz.prog w = .ok (.slice (some e2) bl (cap4 - (p + 1))) w := hf2n
     have hf3 : ∀ w, (Instr.sliceAt 61 (.slice (some ⟨g, 0, none⟩) (n + 1) cap4) (some (.int .i64 (p : Int))) none none).run Tryz.prog w = .ok (.slice (some s2) (bl + 1) (cap4 - p)) w := hf3n
     have hsplit : talCells l = talCells (l.take p) ++ talCells (l.drop p) := by rw [← talCells_app2, List.take_append_drop]
     have HLA : Hid ((talCells (l.take p)).length = p * 4) := by show _ = _; rw [talLen, List.length_take, HLN.out, Nat.min_eq_left hpn]
     have HLB : Hid ((talCells (l.drop p)).length = bl * 4) := by show _ = _; rw [talLen, List.length_drop, HLN.out, hbl2]
     have HROOM : Hid (∀ ty, ∃ w3, (Builtin.copy_ #[61, 61] ty #[.slice (some e2) bl (cap4 - (p + 1)), .slice (some s2) (bl + 1) (cap4 - p)]).run Tryz.prog w4.drew = .ok (goInt bl) w3 ∧ (∃ y, y.length = 4 ∧ w3.ownsRow base 82 4 (.slice (some ⟨g, 0, none⟩) (n + 1) cap4) (n + 1) (talCells (l.take p) ++ y ++ talCells (l.drop p))) ∧ w3.heap.size = w4.drew.heap.size ∧ (∀ b, b ≠ g → w3.heap[b]? = w4.drew.heap[b]?) ∧ Below g w4.drew w3) := fun ty =>
      own_room (w2 := w4.drew) (na := p) (nb := bl) (s := 4) (z := [.int .i64 0, .int .i64 0, .string ⟨#[]⟩, .int .i64 0]) 61 82 i0 Tryz.underlying61 HI0.out.1 HI0.out.2.2.1 (World.ownsRow.drew (by rw [← hsplit]; exact hown4)) HLA.out HLB.out rfl hsum (tal_one _) (some e2) (some s2) (cap4 - (p + 1)) (cap4 - p) (fun h => congrArg some (hd2 (by omega))) (fun h => congrArg some (hs2 (by omega))) ty
     clear hf2n hf3n hd2 hs2 hown4 hgrow4 hsplit hat4
     go_wp2
     go_region_law (first
      | (obtain ⟨w5, hrun5, ⟨y5, hy5, hown5⟩, hsz5, hblk5, hbl5⟩ := HROOM.out 3; refine step_cpyS (by rfl) (.tmp 68) (.tmp 71) 61 (by rfl) (.slice (some e2) bl (cap4 - (p + 1))) (.slice (some s2) (bl + 1) (cap4 - p)) _ (by simp [Act.eval, Act.put]) (by simp [Act.eval, Act.put]) hrun5 ?_))
     all_goals
      have HB5 : Hid (Below base w w5) := HB4.out.trans (bR.drew.trans (hbl5.mono hg4.1))
      have hsz5' : w5.heap.size = w4.heap.size := hsz5
      have hblk5' : ∀ b, b ≠ g → w5.heap[b]? = w4.heap[b]? := hblk5
      have hbx5 : w5.heap[w.heap.size]? = W2.heap[w.heap.size]? := (hblk5' _ hgb.symm).trans hbox4
      have f0 := (cell_blk2 hbx5 0).trans d0
      have f1 := (cell_blk2 hbx5 1).trans d1
      have f2 := (cell_blk2 hbx5 2).trans d2
      have lg5 : g < w5.heap.size := by omega
      have HO5 : Hid (w5.ownsRow base 82 4 (.slice (some ⟨g, 0, none⟩) (n + 1) cap4) (n + 1) (talCells (l.take p) ++ y5 ++ talCells (l.drop p)) ∧ y5.length = 4) := ⟨hown5, hy5⟩
      have HK5 : Hid ((∀ b, b ≠ g → w5.heap[b]? = w4.heap[b]?) ∧ w5.heap.size = w4.heap.size) := ⟨hblk5', hsz5'⟩
      obtain ⟨⟨u0, g0⟩, ⟨u1, g1⟩, ⟨u2, g2⟩, ⟨u3, g3⟩⟩ := four_cells hown5 HLA.out hy5
      have z0 := own_froz hown5 (p * 4)
      have z1 := own_froz hown5 (p * 4 + 1)
      have z2 := own_froz hown5 (p * 4 + 1 + 1)
      have z3 := own_froz hown5 (p * 4 + 1 + 1 + 1)
      clear hown5 hy5 hblk5 hblk5' hbl5 hsz5 hrun5 HROOM hbx5 c0 c1 c2 d0 d1 d2
      have i1 : (0 : Int) ≤ (p : Int) := by omega
      have i2 : (p : Int) < ((n + 1 : Nat) : Int) := by omega
      have i3 : (p : Int) < (n : Int) + 1 := by omega
      go_wp2
      have hgl : base ≤ g := hg4.1
      have hbb := ((((HB5.out.setCell (p := ⟨g, p * 4, none⟩) hgl (.int .i64 ck)).setCell (p := ⟨g, p * 4 + 1, none⟩) hgl (.int .i64 cn)).setCell (p := ⟨g, p * 4 + 2, none⟩) hgl (.string cs)).setCell (p := ⟨g, p * 4 + 3, none⟩) hgl (.int .i64 1))
      have hoo := own_four HO5.out.1 HLA.out HO5.out.2 (.int .i64 ck) (.int .i64 cn) (.string cs) (.int .i64 1)
      go_ret2
      refine ⟨some ⟨g, 0, none⟩, n + 1, cap4, ret_tal HRES.out.2.symm, ?_, ?_, fun k hk hne => ?_, fun g' hg' => ?_, hbb⟩
      ·have el : (l.take p ++ (⟨ck, cn, cs⟩, (1 : Int)) :: l.drop p).length = n + 1 := by rw [List.length_append, List.length_cons, List.length_take, List.length_drop, HLN.out]; omega
       rw [HRES.out.1]
       unfold ownT
       rw [el, talCells_app2]
       have e3 : talCells ((⟨ck, cn, cs⟩, (1 : Int)) :: l.drop p) = [.int .i64 ck, .int .i64 cn, .string cs, .int .i64 1] ++ talCells (l.drop p) := rfl
       rw [e3, ← List.append_assoc]
       exact hoo
      ·exact Nat.le_trans hw2.size (Nat.le_trans hsz4 (by rw [← HK5.out.2]; simp [World.setCell]))
      ·have h1 : k ≠ g := fun e => by
        subst e
        rcases HGAT.out with h1 | h1
        ·exact hne h1
        ·omega
       rw [Below.heap_setCell _ _ _ _ h1, Below.heap_setCell _ _ _ _ h1, Below.heap_setCell _ _ _ _ h1, Below.heap_setCell _ _ _ _ h1, HK5.out.1 k h1, HL4.out k hk hne]
      ·cases hg'
       exact HGAT.out
    ·have HRES : Hid (talR (-1) l ⟨ck, cn, cs⟩ = l ∧ talOk (-1) l ⟨ck, cn, cs⟩ = false) := ⟨by unfold talR; rw [if_neg (by decide), if_neg (by rw [HI.out]; decide)], by unfold talOk; rw [HI.out]; rfl⟩
     go_wp2
     go_ret2
     exact ⟨ad, n, cap, ret_tal HRES.out.2.symm, by rw [HRES.out.1]; unfold ownT; rw [HLN.out]; exact HO2.out, hw2.size, fun b hb _ => hw2.block b hb, fun g hg => .inl hg, hw2.mono hlow⟩
   | true =>
    have hpl : p < n := by
     rcases Nat.lt_or_ge p n with h | h
     ·exact h
     ·have := HNO.out (by omega); cases this
    obtain ⟨g, hg⟩ : ∃ g, ad = some ⟨g, 0, none⟩ := by
     rcases HO.out.2 with ⟨hv, h0⟩ | ⟨g, cap', cur, hv, _⟩
     ·omega
     ·injection hv with e1 _ _; exact ⟨g, e1⟩
    subst hg
    obtain ⟨b, o, e, x1, x2, x3, x4⟩ := HC.out p hpl
    cases e
    have q4 := cL hw2 x4
    have hNN := HNN.out p hpl
    have HRB : Hid (talOk d l ⟨ck, cn, cs⟩ = true) := by show _ = _; unfold talOk; rw [HI.out, Bool.or_true]
    have HRP := HRA.out p HP.out
    have HMID := tal_mid l p (by rw [HLN.out]; exact hpl)
    clear x1 x2 x3 x4
    have i1 : (0 : Int) ≤ (p : Int) := by omega
    have i2 : (p : Int) < (n : Int) := by omega
    have hfz := own_froz HO2.out (0 + p * 4 + 3)
    obtain ⟨⟨tc, N⟩, ht⟩ : ∃ z, l.getD p default = z := ⟨_, rfl⟩
    rw [ht] at q4 hNN HRP HMID
    dsimp only at q4 hNN HRP HMID
    simp only [Nat.zero_add] at q4
    have hgw : g < w.heap.size := (ch.own_lt HO.out (g := g) rfl).2
    have hbg : base ≤ g := (ch.own_lt HO.out (g := g) rfl).1
    have lg : g < W2.heap.size := by omega
    have hcap := own_capN HO.out
    have hwd : IntKind.i64.wrap (N + d) = N + d := by rw [IntKind.wrap_i64]; omega
    have HLA : Hid ((talCells (l.take p)).length = p * 4) := by show _ = _; rw [talLen, List.length_take, HLN.out, Nat.min_eq_left hpn]
    have HR3 := HRP.2.1 HI.out
    have HR4 := HRP.2.2.1
    have HR5 := HRP.2.2.2
    have HTD : Hid (d = 1 ∨ d = -1) := hd
    clear HRP HRA HC HLT HGE HIS HNO HNN
    by_cases hz : N + d = 0
    ·have HRES : Hid (talR d l ⟨ck, cn, cs⟩ = l.take p ++ l.drop (p + 1)) := by
      show _ = _
      have hd1 : d ≠ 1 := by omega
      unfold talR
      rw [if_neg hd1, if_pos HI.out]
      exact HR4 (by rcases HTD.out with h | h <;> omega)
     obtain ⟨i0, hii, hz0, hz1, hz2⟩ := info_parts infoT
     obtain ⟨m, hm⟩ : ∃ z, n - (p + 1) = z := ⟨_, rfl⟩
     have hnm : n = p + 1 + m := by omega
     have HLC : Hid ((talCells (l.drop (p + 1))).length = m * 4) := by show _ = _; rw [talLen, List.length_drop, HLN.out, hm]
     obtain ⟨ad, had⟩ : ∃ a : Addr, (if cap = p + 1 then (⟨g, 0, none⟩ : Addr) else ⟨g, (p + 1) * 4, none⟩) = a := ⟨_, rfl⟩
     have hA2 : (if cap = p + 1 then some (⟨g, 0, none⟩ : Addr) else some ⟨g, (p + 1) * 4, none⟩) = some ad := by rw [← had]; split <;> rfl
     obtain ⟨w5, y, hrun5, hown5, hyl, hs5, hb5, hbel5⟩ := own_out (w := W2.drew) (n := n) (by have := ch.own_below HO2.out bR.drew; rw [HMID] at this; exact this) 61 i0 Tryz.underlying61 hii hz1 61 p m HLA.out rfl HLC.out hnm (tal_one _) ad (fun h => by rw [← had]; exact if_neg (by omega)) (cap - (p + 1))
     have HF : Hid (w5.ownsRow base 82 4 (.slice (some ⟨g, 0, none⟩) (p + m) cap) (p + m) (talCells (l.take p ++ l.drop (p + 1))) ∧ (∀ b, b ≠ g → w5.heap[b]? = W2.heap[b]?) ∧ w5.heap.size = W2.heap.size ∧ Below g W2 w5 ∧ (l.take p ++ l.drop (p + 1)).length = p + m) := by
      refine ⟨?_, hb5, hs5, bR.drew.trans hbel5, ?_⟩
      ·have h1 := ch.own_front hown5 (p + m) (by omega)
       have e5 : ((talCells (l.take p) ++ talCells (l.drop (p + 1)) ++ y).take ((p + m) * 4)) = talCells (l.take p) ++ talCells (l.drop (p + 1)) := by
        rw [List.take_append_of_le_length (by rw [List.length_append, HLA.out, HLC.out]; omega), List.take_of_length_le (by rw [List.length_append, HLA.out, HLC.out]; omega)]
       rw [e5, ← talCells_app2] at h1
       exact h1
      ·rw [List.length_append, List.length_take, List.length_drop, HLN.out]; omega
     have HR1 : Hid ((Builtin.append_ #[61, 61] 61 #[.slice (some ⟨g, 0, none⟩) p cap, .slice (some ad) m (cap - (p + 1))]).run Tryz.prog W2.drew = .ok (.slice (some ⟨g, 0, none⟩) (p + m) cap) w5) := hrun5
     have e4 : (p : Int) + 1 ≤ (n : Int) := by omega
     have e5 : (n : Int) ≤ (cap : Int) := by omega
     have e6 : ((p : Int) + 1).toNat = p + 1 := by omega
     have e7 : (0 : Int) ≤ (p : Int) + 1 := by omega
     have e8 : (p : Int) ≤ (n : Int) := by omega
     have e9 : p ≤ n := by omega
     have e10 : n - (p + 1) = m := hm
     have e11 : p ≤ cap := by omega
     have e12 : (p : Int) ≤ (cap : Int) := by omega
     have hwp : IntKind.i64.wrap ((p : Int) + 1) = (p : Int) + 1 := by rw [IntKind.wrap_i64]; omega
     have hz' : (N + d == 0) = true := by simpa using hz
     have mixed : Tryz.prog.follows .mixedOrders = true := by kernel_rfl
     clear had hrun5 hown5 hs5 hb5 hbel5 hyl HMID HR3 HR4 HR5 hz0 hz1 hz2 hii hm hnm hd
     go_wp2
     go_region_law_o (refine step_append_runI rfl _ _ 61 61 rfl (.slice (some ⟨g, 0, none⟩) p cap) (.slice (some ad) m (cap - (p + 1))) (by simp [Act.eval, Act.put]) (by simp [Act.eval, Act.put, hA2, e10]) HR1.out ?_)
     go_wp2
     go_ret2
     refine ⟨some ⟨g, 0, none⟩, p + m, cap, ret_tal HRB.out.symm, ?_, by rw [HF.out.2.2.1]; exact hw2.size, fun k hk hne => ?_, fun g' hg' => by cases hg'; exact .inl rfl, (hw2.mono hlow).trans (HF.out.2.2.2.1.mono hbg)⟩
     ·rw [HRES.out]
      unfold ownT
      rw [HF.out.2.2.2.2]
      exact HF.out.1
     ·rw [HF.out.2.1 k (fun e => hne (by rw [e]; rfl))]
      exact hw2.block k hk
    ·have HRES : Hid (talR d l ⟨ck, cn, cs⟩ = l.set p (tc, N + d)) := by
      show _ = _
      unfold talR
      rcases HTD.out with h | h
      ·subst h
       rw [if_pos rfl]; exact HR3
      ·subst h
       rw [if_neg (by decide), if_pos HI.out]
       exact HR5 (by omega)
     have hz' : (N + d == 0) = false := by simpa using hz
     have HOS : Hid (ownT (W2.setCell ⟨g, p * 4 + 3, none⟩ (.int .i64 (N + d))) base (.slice (some ⟨g, 0, none⟩) n cap) (l.set p (tc, N + d))) := by
      show ownT _ _ _ _
      have h1 := ch.own_set HO2.out (p * 4 + 3) (by omega) (.int .i64 (N + d))
      rw [tal_set l p (N + d) (by rw [HLN.out]; exact hpl), ht] at h1
      unfold ownT
      rw [List.length_set, HLN.out]
      exact h1
     simp only [Nat.zero_add] at hfz
     clear HMID HR3 HR4 HR5 ht hd
     go_wp2
     go_ret2
     exact ⟨some ⟨g, 0, none⟩, n, cap, ret_tal HRB.out.symm, by rw [HRES.out]; exact HOS.out, by have := hw2.size; simpa [World.setCell] using this, fun k hk hne => by rw [Below.heap_setCell _ _ _ _ (fun e => hne (by rw [e]; rfl))]; exact hw2.block k hk, fun g' hg' => .inl hg', (hw2.mono hlow).setCell hbg _⟩
end Go.Proofs.YtbfbgdinhiglaaaGreat.gr
