import Derived.Test.YtdohnkkbkfhphaaGreatRows
import Derived.WalkKit
import Derived.ProofKit
import Derived.OpenShut
import Derived.WalkSpells
import Derived.Deep.RegionHeld3
import Derived.WalkLawsBesides
import Derived.Shelf.Small.Strs
import Derived.Deep.DrawnRows
import Derived.Deep.Light
import Derived.Deep.QuietTactic
import Derived.BigQuiet
import Derived.Deep.AppendLies
import Derived.OwnWalk
namespace Go.Proofs.YtdohnkkbkfhphaaGreat
open Go.ChangeShapes Go.WideShapes Go.ChangeAt Go.RowKit
theorem cLz {w wx : World} {a : Addr} {v : Value} (hb : Below w.heap.size w wx) (h : w.cell? a = some v) : wx.cell? a = some v := cell_later hb h
theorem bR {n : Nat} {w : World} : Below n w w := Below.refl _ _
theorem nR {n : Nat} : n ≤ n := Nat.le_refl _
theorem sI {α : Type} (l : List α) (i : Nat) (a : α) : l.toArray.setIfInBounds i a = (l.set i a).toArray := List.setIfInBounds_toArray l i a
theorem sZ {α : Type} (x : α) (xs : List α) (a : α) : (x :: xs).set 0 a = a :: xs := rfl
theorem sS {α : Type} (x : α) (xs : List α) (n : Nat) (a : α) : (x :: xs).set (n + 1) a = x :: xs.set n a := rfl
theorem hIz {p : Prop} (h : p) : Hid p := h
theorem sk {P : Program} {md : Region.Mode} {ops : Array Oper} {Q : Exit → Act → World → Prop} {S : World → Prop} {fuel : Nat} {listed : Array Bool} {a b : Act} {w : World} {oi : Oper} (i : Nat) (d : Nat) (hS : S w) (h : wpAnyH P md ops Q S fuel (listed.setIfInBounds i true) b w)
    (hi : ops[i]? = some oi := by exact rfl) (hk : (Region.noSelect ops && (Region.free md ops listed i && (Region.ready md ops listed).contains i)) = true := by kernel_rfl) (hd : oi.dst = some d := by exact rfl) (hw : Region.wanted oi (yielded ops a.tmps) = false := by exact rfl) (ha : a.put (some d) undef = b := by (simp only [Act.put, sI, sZ, sS]; exact rfl))
    (hQ : ∀ c a w, Q (.panic c) (a.put oi.dst undef) w → Q (.panic c) a w := by exact fun _ _ _ h => h) : wpAnyH P md ops Q S (fuel + 1) listed a w := by
  rw [Bool.and_eq_true, Bool.and_eq_true] at hk
  exact wpAnyH_take hi hk.1 hk.2.1 hk.2.2 hQ (Or.inr ⟨hw, rfl⟩) hS (by rw [hd, ha]; exact h)
theorem tkz {P : Program} {md : Region.Mode} {ops : Array Oper} {Q : Exit → Act → World → Prop} {S : World → Prop} {fuel : Nat} {listed : Array Bool} {a b : Act} {w : World} {oi : Oper} {v : Value} (i : Nat) (d : Nat) (hS : S w) (h : wpAnyH P md ops Q S fuel (listed.setIfInBounds i true) b w)
    (hi : ops[i]? = some oi := by exact rfl) (hk : (Region.noSelect ops && (Region.free md ops listed i && (Region.ready md ops listed).contains i)) = true := by kernel_rfl) (hd : oi.dst = some d := by exact rfl) (hw : Region.wanted oi (yielded ops a.tmps) = true := by exact rfl) (hy : ∀ w, S w → (execOp a.eval oi).run P w = .ok (.value v) w := by (intro w' hSw; (try dsimp only at hSw); first | (go_simp; done) | (go_simp; with_reducible rfl))) (ha : a.put (some d) v = b := by (simp only [Act.put, sI, sZ, sS]; exact rfl))
    (hQ : ∀ c a w, Q (.panic c) (a.put oi.dst v) w → Q (.panic c) a w := by exact fun _ _ _ h => h) : wpAnyH P md ops Q S (fuel + 1) listed a w := by
  rw [Bool.and_eq_true, Bool.and_eq_true] at hk
  exact wpAnyH_take hi hk.1 hk.2.1 hk.2.2 hQ (Or.inl ⟨hw, hy⟩) hS (by rw [hd, ha]; exact h)
end Go.Proofs.YtdohnkkbkfhphaaGreat
namespace Go.Proofs
open Go.Shelf
def Tryz.lays106_ren : Go.Shelf.Ren := ⟨fun | 106 => 165 | 213 => 205 | 265 => 218 | n => n, fun | 9 => 9 | 3 => 3 | n => n, fun | n => n⟩
theorem Tryz.lays106 : Go.Proofs.Lays.n106 Tryz.prog Tryz.lays106_ren := {
 mixed := by kernel_rfl
 f106 := Tryz.func165.trans (congrArg some (by kernel_rfl))
 f213 := Tryz.func205.trans (congrArg some (by kernel_rfl))
 f265 := Tryz.func218.trans (congrArg some (by kernel_rfl))
 t3 := Tryz.underlying3
 a3 := Tryz.isAgg3
 z3 := Tryz.sizeOf3
 v3 := Tryz.zeroValue3
 t9 := Tryz.underlying9
 a9 := Tryz.isAgg9
 z9 := Tryz.sizeOf9
 v9 := Tryz.zeroValue9 }
end Go.Proofs
namespace Go.Proofs.YtdohnkkbkfhphaaGreat.vl
open Go.ChangeShapes Go.WideShapes Go.ChangeAt Go.RowKit
set_option linter.unusedVariables false
set_option linter.unusedSimpArgs false
theorem strCmp_any (a b : ByteArray) (w : World) :
 Calls Tryz.prog 165 #[.string a, .string b] w fun e w' => e = .returned (.int .i64 (Lib.compareBytes a.data.toList b.data.toList)) ∧ w' = w :=
 Any.strings_Compare Tryz.lays106 a b w
theorem ret_int {k : IntKind} {a b : Int} (h : a = b) : Ending.returned (.int k a) = .returned (.int k b) := by rw [h]
def ordI (a b : Int) : Int := if a < b then -1 else if b < a then 1 else 0
theorem cmpInt_any (a b : Int) (w : World) :
 Calls Tryz.prog 166 #[.int .i64 a, .int .i64 b] w fun e w' => e = .returned (.int .i64 (ordI a b)) ∧ w' = w := by
 go_enter Tryz.func166, Tryz.ntmps166
 go_wp2
 all_goals
  go_ret
  exact ⟨ret_int (by unfold ordI; omega), rfl⟩
def firstNZ : List Int → Int
 | [] => 0
 | x :: r => if x = 0 then firstNZ r else x
theorem firstNZ_zero (zs : List Int) (k : Nat) (h : ∀ i, i < k → zs[i]?.getD 0 = 0) : firstNZ zs = firstNZ (zs.drop k) := by
 induction zs generalizing k with
 | nil => simp
 | cons x r ih =>
  cases k with
  | zero => rfl
  | succ k =>
   have h0 : x = 0 := by simpa using h 0 (by omega)
   subst h0
   simp only [firstNZ, if_true, List.drop_succ_cons]
   exact ih k (fun i hi => by simpa using h (i + 1) (by omega))
theorem firstNZ_at (zs : List Int) (k : Nat) (h : ∀ i, i < k → zs[i]?.getD 0 = 0) (hk : k < zs.length) (hz : zs[k]?.getD 0 ≠ 0) : firstNZ zs = zs[k]?.getD 0 := by
 rw [firstNZ_zero zs k h, List.drop_eq_getElem_cons hk, firstNZ]
 simp only [List.getElem?_eq_getElem hk, Option.getD_some] at hz ⊢
 rw [if_neg hz]
set_option maxHeartbeats 400000 in
theorem first_any (b : Nat) (zs : List Int) (w : World) (hl : zs.length ≤ 100)
 (hc : ∀ i, i < zs.length → w.cell? ⟨b, i, none⟩ = some (.int .i64 (zs[i]?.getD 0))) :
 Calls Tryz.prog 208 #[.slice (some ⟨b, 0, none⟩) zs.length zs.length] w fun e w' => e = .returned (.int .i64 (firstNZ zs)) ∧ w' = w := by
 go_enter Tryz.func208, Tryz.ntmps208
 go_wp2
 go_loop [7] (fun i => ∃ k : Nat, k ≤ zs.length ∧ i = .int .i64 k ∧ ∀ i, i < k → zs[i]?.getD 0 = 0) (fun i => zs.length - (intOf i).toNat)
 case atStart => exact ⟨0, Nat.zero_le _, rfl, fun i hi => absurd hi (Nat.not_lt_zero i)⟩
 case round =>
  obtain ⟨k, hk, rfl, hall⟩ := hrel
  have HA : Hid (∀ i, i < k → zs[i]?.getD 0 = 0) := hall
  clear hall
  by_cases hlt : k < zs.length
  ·have hcell := hc k hlt
   obtain ⟨z, hz0⟩ : ∃ z, zs[k]?.getD 0 = z := ⟨_, rfl⟩
   rw [hz0] at hcell
   have HZ : Hid (zs[k]?.getD 0 = z) := hz0
   clear hc hz0
   by_cases hf : (z == 0) = true
   ·have hf2 : z = 0 := by simpa using hf
    have HF : Hid (z = 0) := hf2
    clear hf2
    go_wp2
    go_round
    case rel => exact ⟨k + 1, by omega, by go_num, fun i hi => by
     rcases Nat.lt_succ_iff_lt_or_eq.1 hi with h | h
     ·exact HA.out i h
     ·rw [h, HZ.out]; exact HF.out⟩
    case measure => simp [intOf]; omega
   ·have hf' : (z == 0) = false := by simpa using hf
    have hne : Hid (firstNZ zs = z) := by
     show firstNZ zs = z
     rw [firstNZ_at zs k HA.out hlt (by rw [HZ.out]; simpa using hf)]; exact HZ.out
    go_wp2
    go_ret
    exact ⟨ret_int (by rw [hne.out]), rfl⟩
  ·have hz : Hid (firstNZ zs = 0) := by
    show firstNZ zs = 0
    rw [firstNZ_zero zs k HA.out, List.drop_of_length_le (by omega)]; rfl
   go_wp2
   go_ret
   exact ⟨ret_int (by rw [hz.out]), rfl⟩
theorem first3 (b : Nat) (x y z : Int) (w : World) (h0 : w.cell? ⟨b, 0, none⟩ = some (.int .i64 x)) (h1 : w.cell? ⟨b, 1, none⟩ = some (.int .i64 y)) (h2 : w.cell? ⟨b, 2, none⟩ = some (.int .i64 z)) :
 Calls Tryz.prog 208 #[.slice (some ⟨b, 0, none⟩) 3 3] w fun e w' => e = .returned (.int .i64 (firstNZ [x, y, z])) ∧ w' = w :=
 first_any b [x, y, z] w (by simp) (fun i hi => by
  match i, hi with
  | 0, _ => exact h0
  | 1, _ => exact h1
  | 2, _ => exact h2)
def cmpV (k1 n1 : Int) (s1 : ByteArray) (k2 n2 : Int) (s2 : ByteArray) : Int :=
 firstNZ [ordI k1 k2, ordI n1 n2, Lib.compareBytes s1.data.toList s2.data.toList]
attribute [local go_sem ↓] Go.wp_at_zero Go.wp_at_succ
set_option maxRecDepth 100000 in
set_option maxHeartbeats 2000000 in
theorem compare_any (k1 n1 : Int) (s1 : ByteArray) (k2 n2 : Int) (s2 : ByteArray) (w : World) :
 Calls Tryz.prog 176 #[.agg #[.int .i64 k1, .int .i64 n1, .string s1], .agg #[.int .i64 k2, .int .i64 n2, .string s2]] w
  fun e w' => e = .returned (.int .i64 (cmpV k1 n1 s1 k2 n2 s2)) ∧ Below w.heap.size w w' := by
 go_enter Tryz.func176, Tryz.ntmps176
 go_wp2
 go_region_held3 (fun w' => w'.cell? ⟨w.heap.size, 0, none⟩ = some (.int .i64 k1) ∧ w'.cell? ⟨w.heap.size, 1, none⟩ = some (.int .i64 n1) ∧ w'.cell? ⟨w.heap.size, 2, none⟩ = some (.string s1) ∧ w'.cell? ⟨w.heap.size + 1, 0, none⟩ = some (.int .i64 k2) ∧ w'.cell? ⟨w.heap.size + 1, 1, none⟩ = some (.int .i64 n2) ∧ w'.cell? ⟨w.heap.size + 1, 2, none⟩ = some (.string s2)) (go_keep)
  (first
   | (go_at_call 166; refine (cmpInt_any _ _ _).mono ?_; rintro e w' ⟨rfl, rfl⟩)
   | (go_at_call 165; refine (strCmp_any _ _ _).mono ?_; rintro e w' ⟨rfl, rfl⟩)
   | (go_at_call 208; refine (first3 _ (ordI k1 k2) (ordI n1 n2) (Lib.compareBytes s1.data.toList s2.data.toList) _ ?_ ?_ ?_).mono ?_; (go_simp); (go_simp); (go_simp); rintro e w' ⟨rfl, rfl⟩))
 all_goals
  go_wp2
  go_ret
  refine ⟨rfl, ?_⟩
  repeat (first | exact bR | apply Below.drew | (refine Below.alloc ?_ (by simp <;> omega) _))
def chk (k n : Int) (s : ByteArray) : Int :=
 if k < 0 ∨ 3 < k then 4
 else if (k ≠ 2 ∧ n ≠ 0 ∧ ¬ (k = 1 ∧ n = 1)) ∨ (k ≠ 3 ∧ s.size ≠ 0) then 1
 else if 64 < s.size then 2 else 0
theorem empty_iff (s : ByteArray) : s.toList = [] ↔ s.size = 0 := by
 rw [Lib.toList_data]
 exact ⟨fun h => by show s.data.size = 0; rw [← Array.length_toList, h]; rfl, fun h => List.eq_nil_of_length_eq_zero (by rw [Array.length_toList]; exact h)⟩
set_option maxHeartbeats 1000000 in
theorem check_any (k n : Int) (s : ByteArray) (w : World) (hs : s.size ≤ maxLen) :
 Calls Tryz.prog 156 #[.agg #[.int .i64 k, .int .i64 n, .string s]] w fun e w' => e = .returned (.int .i64 (chk k n s)) ∧ Below w.heap.size w w' := by
 unfold maxLen at hs
 go_enter Tryz.func156, Tryz.ntmps156
 go_wp2
 all_goals
  go_ret
  refine ⟨ret_int ?_, bR.alloc nR _⟩
  go_light
  try simp only [beq_iff_eq, beq_eq_false_iff_ne, bne_iff_ne, bne_eq_false_iff_eq, Bool.not_eq_true', Bool.not_eq_false', List.isEmpty_iff, List.isEmpty_eq_false_iff, ne_eq, empty_iff] at *
  unfold chk
  omega
theorem less_cmp : ∀ (a b : List UInt8), Lib.compareBytes a b = if Op.bytesLess a b = true then -1 else if (a == b) = true then 0 else 1
 | [], [] => by simp [Lib.compareBytes, Op.bytesLess]
 | _ :: _, [] => by simp [Lib.compareBytes, Op.bytesLess]
 | [], _ :: _ => by simp [Lib.compareBytes, Op.bytesLess]
 | a :: x, b :: y => by
  rw [Lib.compareBytes, less_cmp x y, Op.bytesLess]
  by_cases h1 : a < b
  ·simp [h1]
  ·by_cases h2 : b < a
   ·have h3 : ¬ a = b := fun h => by subst h; exact absurd h2 h1
    simp [h1, h2, h3]
   ·have h3 : a = b := UInt8.le_antisymm (UInt8.not_lt.1 h2) (UInt8.not_lt.1 h1)
    subst h3
    simp [h1]
structure Cel where
 k : Int
 n : Int
 s : ByteArray
deriving DecidableEq
instance : Inhabited Cel := ⟨⟨0, 0, ⟨#[]⟩⟩⟩
def Cel.val (c : Cel) : Value := .agg #[.int .i64 c.k, .int .i64 c.n, .string c.s]
def rowAt (w : World) (a : Option Addr) (r : List Cel) : Prop :=
 ∀ i, i < r.length → ∃ b off, a = some ⟨b, off, none⟩ ∧ w.cell? ⟨b, off + i * 3, none⟩ = some (.int .i64 (r.getD i default).k) ∧ w.cell? ⟨b, off + i * 3 + 1, none⟩ = some (.int .i64 (r.getD i default).n) ∧ w.cell? ⟨b, off + i * 3 + 1 + 1, none⟩ = some (.string (r.getD i default).s)
theorem ret_bool {a b : Bool} (h : a = b) : Ending.returned (.bool a) = .returned (.bool b) := by rw [h]
def cmpC (a b : Cel) : Int := cmpV a.k a.n a.s b.k b.n b.s
def cmpRows : List Cel → List Cel → Int
 | [], [] => 0
 | [], _ :: _ => -1
 | _ :: _, [] => 1
 | a :: x, b :: y => if cmpC a b = 0 then cmpRows x y else cmpC a b
theorem cmpRows_drop (r1 r2 : List Cel) (k : Nat) (h1 : k ≤ r1.length) (h2 : k ≤ r2.length) (h : ∀ i, i < k → cmpC (r1.getD i default) (r2.getD i default) = 0) :
 cmpRows r1 r2 = cmpRows (r1.drop k) (r2.drop k) := by
 induction k generalizing r1 r2 with
 | zero => rfl
 | succ k ih =>
  match r1, r2, h1, h2 with
  | a :: x, b :: y, h1, h2 =>
   have h0 : cmpC a b = 0 := h 0 (by omega)
   rw [cmpRows, if_pos h0, List.drop_succ_cons, List.drop_succ_cons]
   exact ih x y (by simpa using h1) (by simpa using h2) (fun i hi => h (i + 1) (by omega))
theorem drop_getD (r : List Cel) (k : Nat) (h : k < r.length) : r.drop k = r.getD k default :: r.drop (k + 1) := by
 rw [List.drop_eq_getElem_cons h]; simp [List.getD_eq_getElem?_getD, h]
theorem cmpRows_at (r1 r2 : List Cel) (k : Nat) (h1 : k < r1.length) (h2 : k < r2.length) (h : ∀ i, i < k → cmpC (r1.getD i default) (r2.getD i default) = 0)
 (hne : cmpC (r1.getD k default) (r2.getD k default) ≠ 0) : cmpRows r1 r2 = cmpC (r1.getD k default) (r2.getD k default) := by
 rw [cmpRows_drop r1 r2 k (by omega) (by omega) h, drop_getD r1 k h1, drop_getD r2 k h2, cmpRows, if_neg hne]
theorem cmpRows_end (r1 r2 : List Cel) (k : Nat) (h1 : k ≤ r1.length) (h2 : k ≤ r2.length) (h : ∀ i, i < k → cmpC (r1.getD i default) (r2.getD i default) = 0)
 (he : k = r1.length ∨ k = r2.length) : cmpRows r1 r2 = ordI r1.length r2.length := by
 rw [cmpRows_drop r1 r2 k h1 h2 h]
 unfold ordI
 by_cases e1 : k = r1.length
 ·rw [List.drop_of_length_le (show r1.length ≤ k by omega)]
  by_cases e2 : k = r2.length
  ·rw [List.drop_of_length_le (show r2.length ≤ k by omega), cmpRows, if_neg (by omega), if_neg (by omega)]
  ·rw [drop_getD r2 k (by omega), cmpRows, if_pos (by omega)]
 ·have e2 : k = r2.length := by omega
  rw [List.drop_of_length_le (show r2.length ≤ k by omega), drop_getD r1 k (by omega), cmpRows, if_neg (by omega), if_pos (by omega)]
attribute [local go_sem ↓] Go.wp_at_zero Go.wp_at_succ
set_option maxRecDepth 100000 in
set_option maxHeartbeats 4000000 in
theorem cmpFunc_any (a1 a2 : Option Addr) (c1 c2 : Nat) (r1 r2 : List Cel) (w : World) (h1 : rowAt w a1 r1) (h2 : rowAt w a2 r2) (l1 : r1.length ≤ 9223372036854775807) (l2 : r2.length ≤ 9223372036854775807) :
 Calls Tryz.prog 175 #[.slice a1 r1.length c1, .slice a2 r2.length c2, .func (.func 176) #[] #[]] w fun e w' => e = .returned (.int .i64 (cmpRows r1 r2)) ∧ Below w.heap.size w w' := by
 obtain ⟨n1, hn1⟩ : ∃ n, r1.length = n := ⟨_, rfl⟩
 obtain ⟨n2, hn2⟩ : ∃ n, r2.length = n := ⟨_, rfl⟩
 have HR1 : Hid (r1.length = n1) := hn1
 have HR2 : Hid (r2.length = n2) := hn2
 rw [hn1] at l1 ⊢
 rw [hn2] at l2 ⊢
 clear hn1 hn2
 go_enter Tryz.func175, Tryz.ntmps175
 go_wp2
 go_loopw [13] (fun i wr => ∃ k : Nat, k ≤ n1 ∧ k ≤ n2 ∧ i = .int .i64 k ∧ Below w.heap.size w wr ∧ (∀ i, i < k → cmpC (r1.getD i default) (r2.getD i default) = 0)) (fun i _ => n1 - (intOf i).toNat)
 case atStart => exact ⟨0, Nat.zero_le _, Nat.zero_le _, rfl, bR, fun i hi => absurd hi (Nat.not_lt_zero i)⟩
 case round =>
  obtain ⟨k, hk1, hk2, rfl, hnx, hall⟩ := hrel
  have HA : Hid (∀ i, i < k → cmpC (r1.getD i default) (r2.getD i default) = 0) := hall
  clear hall
  by_cases hlt : k < n1
  ·obtain ⟨b1, o1, e1, x1, x2, x3⟩ := h1 k (by rw [HR1.out]; exact hlt)
   subst e1
   have q1 := cLz hnx x1
   have q2 := cLz hnx x2
   have q3 := cLz hnx x3
   clear x1 x2 x3 h1
   obtain ⟨⟨ka, na, sa⟩, hca⟩ : ∃ c, r1.getD k default = c := ⟨_, rfl⟩
   rw [hca] at q1 q2 q3
   have HCA : Hid (r1.getD k default = ⟨ka, na, sa⟩) := hca
   clear hca
   dsimp only at q1 q2 q3
   have i1 : (0 : Int) ≤ (k : Int) := by omega
   have i2 : (k : Int) < (n1 : Int) := by omega
   have j1 := World.block_lt_of_cell? _ _ q1
   by_cases hlt2 : k < n2
   ·obtain ⟨b2, o2, e2, y1, y2, y3⟩ := h2 k (by rw [HR2.out]; exact hlt2)
    subst e2
    have p1 := cLz hnx y1
    have p2 := cLz hnx y2
    have p3 := cLz hnx y3
    clear y1 y2 y3 h2
    obtain ⟨⟨kb, nb, sb⟩, hcb⟩ : ∃ c, r2.getD k default = c := ⟨_, rfl⟩
    rw [hcb] at p1 p2 p3
    have HCB : Hid (r2.getD k default = ⟨kb, nb, sb⟩) := hcb
    clear hcb
    dsimp only at p1 p2 p3
    have j2 := World.block_lt_of_cell? _ _ p1
    have i3 : (k : Int) < (n2 : Int) := by omega
    by_cases hc : (cmpV ka na sa kb nb sb == 0) = true
    ·have hz : Hid (cmpC (r1.getD k default) (r2.getD k default) = 0) := by
      show cmpC (r1.getD k default) (r2.getD k default) = 0
      rw [HCA.out, HCB.out]; exact (show cmpV ka na sa kb nb sb = 0 by simpa using hc)
     go_wp2_with (go_at_call 176; refine (compare_any _ _ _ _ _ _ _).mono ?_; rintro e w1 ⟨rfl, hb1⟩)
     go_roundw
     case rel => exact ⟨k + 1, by omega, by omega, by go_num, ((hnx.alloc hnx.size _).alloc (by have := hnx.size; simp; omega) _).trans (hb1.mono (by have := hnx.size; simp; omega)), fun i hi => by
      rcases Nat.lt_succ_iff_lt_or_eq.1 hi with h | h
      ·exact HA.out i h
      ·rw [h]; exact hz.out⟩
     case measure => simp [intOf]; omega
    ·have hz : Hid (cmpRows r1 r2 = cmpV ka na sa kb nb sb) := by
      show cmpRows r1 r2 = cmpV ka na sa kb nb sb
      rw [cmpRows_at r1 r2 k (by rw [HR1.out]; exact hlt) (by rw [HR2.out]; exact hlt2) HA.out (by rw [HCA.out, HCB.out]; exact (show ¬ cmpV ka na sa kb nb sb = 0 by simpa using hc)), HCA.out, HCB.out]
      rfl
     have hc' : (cmpV ka na sa kb nb sb == 0) = false := by simpa using hc
     go_wp2_with (go_at_call 176; refine (compare_any _ _ _ _ _ _ _).mono ?_; rintro e w1 ⟨rfl, hb1⟩)
     go_ret
     exact ⟨ret_int (by rw [hz.out]), ((hnx.alloc hnx.size _).alloc (by have := hnx.size; simp; omega) _).trans (hb1.mono (by have := hnx.size; simp; omega))⟩
   ·have hz : Hid (cmpRows r1 r2 = 1) := by
     show cmpRows r1 r2 = 1
     rw [cmpRows_end r1 r2 k (by rw [HR1.out]; exact hk1) (by rw [HR2.out]; exact hk2) HA.out (by rw [HR1.out, HR2.out]; omega), HR1.out, HR2.out]
     unfold ordI; rw [if_neg (by omega), if_pos (by omega)]
    go_wp2
    go_ret
    exact ⟨ret_int (by rw [hz.out]), hnx.alloc hnx.size _⟩
  ·have hz : Hid (cmpRows r1 r2 = ordI n1 n2) := by
    show cmpRows r1 r2 = ordI n1 n2
    rw [cmpRows_end r1 r2 k (by rw [HR1.out]; exact hk1) (by rw [HR2.out]; exact hk2) HA.out (by rw [HR1.out, HR2.out]; omega), HR1.out, HR2.out]
   go_wp2
   all_goals
    go_ret
    exact ⟨ret_int (by rw [hz.out]; unfold ordI; omega), hnx⟩
theorem rows_any (a1 a2 : Option Addr) (c1 c2 : Nat) (r1 r2 : List Cel) (w : World) (h1 : rowAt w a1 r1) (h2 : rowAt w a2 r2) (l1 : r1.length ≤ 9223372036854775807) (l2 : r2.length ≤ 9223372036854775807) :
 Calls Tryz.prog 130 #[.slice a1 r1.length c1, .slice a2 r2.length c2] w fun e w' => e = .returned (.int .i64 (cmpRows r1 r2)) ∧ Below w.heap.size w w' := by
 obtain ⟨n1, hn1⟩ : ∃ n, r1.length = n := ⟨_, rfl⟩
 obtain ⟨n2, hn2⟩ : ∃ n, r2.length = n := ⟨_, rfl⟩
 have H := cmpFunc_any a1 a2 c1 c2 r1 r2 w h1 h2 l1 l2
 rw [hn1, hn2] at H ⊢
 clear hn1 hn2
 go_enter Tryz.func130, Tryz.ntmps130
 go_wp2_with (go_at_call 175; refine H.mono ?_; rintro e w1 ⟨rfl, hb1⟩)
 go_ret
 exact ⟨rfl, hb1⟩
theorem Tryz.info5 : (Tryz.prog.info? 5).map (fun i => (i.zero, i.size, i.bytes)) = some (some (.int .u8 0), 1, 1) := by kernel_rfl
def byteV (b : UInt8) : Value := .int .u8 (b.toNat : Int)
def ownB (w : World) (base : Nat) (v : Value) (l : List UInt8) : Prop := w.ownsRow base 5 1 v l.length (l.map byteV)
def byteAt (u : Nat) (j : Nat) : UInt8 := UInt8.ofNat (u / 2 ^ (56 - 8 * j))
def be8 (u : Nat) (j : Nat) : List UInt8 := (List.range j).map (byteAt u)
theorem append_byte {ops : Array Oper} {rest : List Oper} {o : Oper} {a : Act} {Q : Exit → Act → World → Prop} (hgd : o.guard = none) (s x : Operand)
 (ho : o.op = .call { callee := .builtin .append, args := #[s, x], argTypes := #[204, 204] }) (base : Nat) (v : Value) (l : List UInt8) (hs : a.eval s = v) (w0 : World)
 (hown : ownB w0 base v l) (X : Value) (b : UInt8) (hX : X = byteV b) (B : Nat) (hB : w0.heap.size = B) (hx : a.eval x = .slice (some ⟨B, 0, none⟩) 1 1) (hl : l.length ≤ 2000000) (hb : base ≤ w0.heap.size)
 (h : ∀ v' w', ownB w' base v' (l ++ [b]) → (w0.alloc (.cells #[X] 5)).grownBy w' v.ownBlock → wpList Tryz.prog ops Q rest (a.put o.dst v') w') :
 wpList Tryz.prog ops Q (o :: rest) a (w0.alloc (.cells #[X] 5)) := by
 subst hX
 subst hB
 obtain ⟨i0, hi, hz0, hz1, hz2⟩ := info_parts Tryz.info5
 refine wpList_append_own _ hgd s x 204 ho base 5 i0 (.int .u8 0) 1 1 Tryz.underlying204 hi hz0 hz1 hz2 rfl (by decide) v l.length (l.map byteV) hs
  (World.ownsRow.alloc hown _) ⟨w0.heap.size, 0, none⟩ 1 1 [byteV b] hx rfl (cell_one_new _ _ _) (by intro u hu; simp at hu; subst hu; rfl) (by unfold maxLen; omega) (by omega) (by simp; omega) ?_
 intro v' w' h1 h2 _
 refine h v' w' ?_ h2
 unfold ownB
 rw [List.length_append, List.map_append]
 exact h1
theorem below_append {base : Nat} {w w0 w' : World} {v : Value} {l : List UInt8} {o : Obj} (hb : Below base w w0) (h0 : base ≤ w0.heap.size) (hown : ownB w0 base v l) (hg : (w0.alloc o).grownBy w' v.ownBlock) : Below base w w' :=
 (hb.alloc h0 o).grown hg (by simp; omega) (fun k hk => (World.ownsRow.lt hown k hk).1)
theorem byteAt_eq (u j : Nat) : (.int .u8 ((u : Int) / 2 ^ (56 - 8 * j) % 256) : Value) = byteV (byteAt u j) := by
 unfold byteV byteAt
 rw [UInt8.toNat_ofNat']
 congr 1
theorem be8_succ (u j : Nat) : be8 u (j + 1) = be8 u j ++ [byteAt u j] := by
 unfold be8; rw [List.range_succ, List.map_append]; rfl
theorem be8_len (u j : Nat) : (be8 u j).length = j := by simp [be8]
theorem xor_low (m : Nat) (h : m < 2 ^ 63) : m ^^^ 2 ^ 63 = 2 ^ 63 + m := by
 apply Nat.eq_of_testBit_eq
 intro i
 rw [Nat.testBit_xor]
 by_cases h1 : i < 63
 ·rw [Nat.testBit_two_pow_add_gt h1, Nat.testBit_two_pow_of_ne (by omega)]; simp
 ·by_cases h2 : i = 63
  ·subst h2; rw [Nat.testBit_two_pow_add_eq, Nat.testBit_two_pow_self, Nat.testBit_lt_two_pow h]; rfl
  ·have h3 : 2 ^ 64 ≤ 2 ^ i := Nat.pow_le_pow_right (by omega) (by omega)
   rw [Nat.testBit_lt_two_pow (Nat.lt_of_lt_of_le h (by omega)), Nat.testBit_two_pow_of_ne (by omega), Nat.testBit_lt_two_pow (Nat.lt_of_lt_of_le (by omega) h3)]; rfl
theorem xor_high (m : Nat) (h : 2 ^ 63 ≤ m) (h2 : m < 2 ^ 64) : m ^^^ 2 ^ 63 = m - 2 ^ 63 := by
 have e := xor_low (m - 2 ^ 63) (by omega)
 have : m = (m - 2 ^ 63) ^^^ 2 ^ 63 := by rw [e]; omega
 rw [this, Nat.xor_assoc, Nat.xor_self, Nat.xor_zero, ← this]
theorem sign_nat (n : Int) (n1 : -9223372036854775808 ≤ n) (n2 : n ≤ 9223372036854775807) :
 (n % 18446744073709551616).toNat ^^^ 9223372036854775808 = (n + 9223372036854775808).toNat := by
 by_cases h : 0 ≤ n
 ·have e : n % 18446744073709551616 = n := Int.emod_eq_of_lt h (by omega)
  rw [e]
  have := xor_low n.toNat (by omega)
  rw [show (2 : Nat) ^ 63 = 9223372036854775808 by decide] at this
  rw [this]; omega
 ·have e : n % 18446744073709551616 = n + 18446744073709551616 := by omega
  rw [e]
  have := xor_high (n + 18446744073709551616).toNat (by omega) (by omega)
  rw [show (2 : Nat) ^ 63 = 9223372036854775808 by decide] at this
  rw [this]; omega
theorem wrapu (x : Int) : IntKind.u64.wrap x = x % 18446744073709551616 := by
 simp [IntKind.wrap, IntKind.signed, IntKind.bits]
theorem sign_xor (n : Int) (n1 : -9223372036854775808 ≤ n) (n2 : n ≤ 9223372036854775807) :
 bits BinOp.xor IntKind.u64 (IntKind.u64.wrap n) 9223372036854775808 = (((n + 9223372036854775808).toNat : Nat) : Int) := by
 unfold bits
 simp only [wrapu]
 rw [BitVec.toNat_xor]
 have e1 : (BitVec.ofInt IntKind.u64.bits (n % 18446744073709551616)).toNat = (n % 18446744073709551616).toNat := by
  rw [BitVec.toNat_ofInt]
  show ((n % 18446744073709551616) % 18446744073709551616).toNat = _
  rw [Int.emod_emod_of_dvd _ (Int.dvd_refl _)]
 have e2 : (BitVec.ofInt IntKind.u64.bits 9223372036854775808).toNat = 9223372036854775808 := by
  rw [BitVec.toNat_ofInt]; rfl
 rw [e1, e2, sign_nat n n1 n2]
 omega
set_option maxHeartbeats 1000000 in
theorem appendInt_any (base : Nat) (v : Value) (l : List UInt8) (n : Int) (w : World) (hb : base ≤ w.heap.size) (ho : ownB w base v l) (hl : l.length ≤ 1000000)
 (n1 : -9223372036854775808 ≤ n) (n2 : n ≤ 9223372036854775807) :
 Calls Tryz.prog 193 #[v, .int .i64 n] w fun e w' => ∃ v', e = .returned v' ∧ ownB w' base v' (l ++ be8 (n + 9223372036854775808).toNat 8) ∧ Below base w w' := by
 have hx := sign_xor n n1 n2
 obtain ⟨u, hu⟩ : ∃ u, (n + 9223372036854775808).toNat = u := ⟨_, rfl⟩
 rw [hu] at hx
 have HU : Hid ((n + 9223372036854775808).toNat = u) := hu
 have hu2 : u ≤ 18446744073709551615 := by omega
 clear hu
 go_enter Tryz.func193, Tryz.ntmps193
 go_wp2
 go_loopw [0, 6] (fun v i wr => ∃ j : Nat, j ≤ 8 ∧ i = .int .i64 (56 - 8 * (j : Int)) ∧ ownB wr base v (l ++ be8 u j) ∧ Below base w wr) (fun _ i _ => (intOf i + 8).toNat)
 case atStart => exact ⟨0, by omega, rfl, by simpa [be8] using ho, bR⟩
 case round =>
  obtain ⟨j, hj, rfl, hown, hnx⟩ := hrel
  have hlj := be8_len u j
  have hbr : base ≤ wr.heap.size := Nat.le_trans hb hnx.size
  have HO : Hid (ownB wr base u0 (l ++ be8 u j)) := hown
  clear ho hown
  by_cases hlt : j < 8
  ·go_wp2_with (at_builtin; refine append_byte rfl (.tmp 14) (.tmp 19) rfl base _ (l ++ be8 u j) rfl _ HO.out _ (byteAt u j) (byteAt_eq u j) _ rfl rfl (by rw [List.length_append, be8_len]; omega) hbr ?_; intro v' w1 hown1 hgrow1)
   go_roundw
   case rel => exact ⟨j + 1, by omega, by go_num, by rw [be8_succ, ← List.append_assoc]; exact hown1, below_append hnx hbr HO.out hgrow1⟩
   case measure => simp [intOf]; omega
  ·have h8 : j = 8 := by omega
   subst h8
   go_wp2
   go_ret
   exact ⟨_, rfl, by rw [HU.out]; exact HO.out, hnx⟩
theorem append_two {ops : Array Oper} {rest : List Oper} {o : Oper} {a : Act} {Q : Exit → Act → World → Prop} (hgd : o.guard = none) (s x : Operand)
 (ho : o.op = .call { callee := .builtin .append, args := #[s, x], argTypes := #[204, 204] }) (base : Nat) (v : Value) (l : List UInt8) (hs : a.eval s = v) (w0 : World)
 (hown : ownB w0 base v l) (B : Nat) (hB : w0.heap.size = B) (hx : a.eval x = .slice (some ⟨B, 0, none⟩) 2 2) (hl : l.length ≤ 2000000) (hb : base ≤ w0.heap.size)
 (h : ∀ v' w', ownB w' base v' (l ++ [0, 1]) → (w0.alloc (.cells #[.int .u8 0, .int .u8 1] 5)).grownBy w' v.ownBlock → wpList Tryz.prog ops Q rest (a.put o.dst v') w') :
 wpList Tryz.prog ops Q (o :: rest) a (w0.alloc (.cells #[.int .u8 0, .int .u8 1] 5)) := by
 subst hB
 obtain ⟨i0, hi, hz0, hz1, hz2⟩ := info_parts Tryz.info5
 refine wpList_append_own _ hgd s x 204 ho base 5 i0 (.int .u8 0) 1 1 Tryz.underlying204 hi hz0 hz1 hz2 rfl (by decide) v l.length (l.map byteV) hs
  (World.ownsRow.alloc hown _) ⟨w0.heap.size, 0, none⟩ 2 2 [.int .u8 0, .int .u8 1] hx rfl (cell_two_new _ _ _ _) (by intro u hu; simp at hu; rcases hu with rfl | rfl <;> rfl) (by unfold maxLen; omega) (by omega) (by simp; omega) ?_
 intro v' w' h1 h2 _
 refine h v' w' ?_ h2
 unfold ownB
 rw [List.length_append, List.map_append]
 exact h1
def encT (l : List UInt8) : List UInt8 := l.flatMap fun b => if b = 0 then [0, 255] else [b]
theorem encT_len (l : List UInt8) : (encT l).length ≤ 2 * l.length := by
 induction l with
 | nil => simp [encT]
 | cons b r ih =>
  have : encT (b :: r) = (if b = 0 then [0, 255] else [b]) ++ encT r := rfl
  rw [this, List.length_append, List.length_cons]
  split <;> simp <;> omega
theorem encT_snoc (l : List UInt8) (b : UInt8) : encT (l ++ [b]) = encT l ++ (if b = 0 then [0, 255] else [b]) := by
 unfold encT; rw [List.flatMap_append]; simp
theorem take_snoc (s : ByteArray) (k : Nat) (h : k < s.size) : s.data.toList.take (k + 1) = s.data.toList.take k ++ [s[k]] := by
 rw [List.take_succ_eq_append_getElem (by simpa using h)]; rfl
theorem byte_zero (b : UInt8) : ((b.toNat : Int) == 0) = decide (b = 0) := by
 rw [Bool.eq_iff_iff, beq_iff_eq, decide_eq_true_iff, ← UInt8.toNat_inj]
 simp
theorem byte_of {b c : UInt8} (h : b = c) : (.int .u8 (b.toNat : Int) : Value) = byteV c := by rw [h]; rfl
set_option maxHeartbeats 1000000 in
theorem appendText_any (base : Nat) (v : Value) (l : List UInt8) (s : ByteArray) (w : World) (hb : base ≤ w.heap.size) (ho : ownB w base v l) (hl : l.length ≤ 1000000) (hs : s.size ≤ 64) :
 Calls Tryz.prog 194 #[v, .string s] w fun e w' => ∃ v', e = .returned v' ∧ ownB w' base v' (l ++ encT s.data.toList ++ [0, 1]) ∧ Below base w w' := by
 go_enter Tryz.func194, Tryz.ntmps194
 go_wp2
 go_loopw [0, 8] (fun v i wr => ∃ k : Nat, k ≤ s.size ∧ i = .int .i64 k ∧ ownB wr base v (l ++ encT (s.data.toList.take k)) ∧ Below base w wr) (fun _ i _ => s.size - (intOf i).toNat)
 case atStart => exact ⟨0, by omega, rfl, by simpa [encT] using ho, bR⟩
 case round =>
  obtain ⟨k, hk, rfl, hown, hnx⟩ := hrel
  have hle : (l ++ encT (s.data.toList.take k)).length ≤ 1000200 := by
   have h1 := encT_len (s.data.toList.take k)
   have h2 : (s.data.toList.take k).length ≤ k := List.length_take_le _ _
   rw [List.length_append]; omega
  have hbr : base ≤ wr.heap.size := Nat.le_trans hb hnx.size
  have HO : Hid (ownB wr base u0 (l ++ encT (s.data.toList.take k))) := hown
  have HL : Hid ((l ++ encT (s.data.toList.take k)).length ≤ 1000200) := hle
  clear ho hown hle
  by_cases hlt : k < s.size
  ·have HS : Hid (encT (s.data.toList.take (k + 1)) = encT (s.data.toList.take k) ++ (if s[k] = 0 then [0, 255] else [s[k]])) := by
    show encT (s.data.toList.take (k + 1)) = _
    rw [take_snoc s k hlt, encT_snoc]
   by_cases hz : ((s[k].toNat : Int) == 0) = true
   ·have hz1 : s[k] = 0 := of_decide_eq_true ((byte_zero s[k]).symm.trans hz)
    have HZ : Hid (s[k] = 0) := hz1
    clear hz1
    go_wp2_with (first
     | (at_builtin; refine append_byte rfl (.tmp 11) (.tmp 15) rfl base _ (l ++ encT (s.data.toList.take k)) rfl _ HO.out _ 0 (byte_of HZ.out) _ rfl rfl (by have := HL.out; omega) hbr ?_; intro v' w1 hown1 hgrow1)
     | (at_builtin; refine append_byte rfl (.tmp 21) (.tmp 22) rfl base _ (l ++ encT (s.data.toList.take k) ++ [0]) rfl _ hown1 _ 255 rfl _ rfl rfl (by have := HL.out; rw [List.length_append]; simp only [List.length_cons, List.length_nil]; omega) (Nat.le_trans hbr (below_append bR hbr HO.out hgrow1).size) ?_; intro v2 w2 hown2 hgrow2))
    go_roundw
    case rel => exact ⟨k + 1, by omega, by go_num, by rw [HS.out, if_pos HZ.out]; simpa [List.append_assoc] using hown2, below_append (below_append hnx hbr HO.out hgrow1) (Nat.le_trans hbr (below_append bR hbr HO.out hgrow1).size) hown1 hgrow2⟩
    case measure => simp [intOf]; omega
   ·have hz' : ((s[k].toNat : Int) == 0) = false := by simpa using hz
    have HZ : Hid (¬ s[k] = 0) := of_decide_eq_false ((byte_zero s[k]).symm.trans hz')
    go_wp2_with (at_builtin; refine append_byte rfl (.tmp 11) (.tmp 15) rfl base _ (l ++ encT (s.data.toList.take k)) rfl _ HO.out _ s[k] rfl _ rfl rfl (by have := HL.out; omega) hbr ?_; intro v' w1 hown1 hgrow1)
    go_roundw
    case rel => exact ⟨k + 1, by omega, by go_num, by rw [HS.out, if_neg HZ.out]; simpa [List.append_assoc] using hown1, below_append hnx hbr HO.out hgrow1⟩
    case measure => simp [intOf]; omega
  ·have HE : Hid (s.data.toList.take k = s.data.toList) := List.take_of_length_le (by simp; omega)
   go_wp2_with (at_builtin; refine append_two rfl (.tmp 25) (.tmp 26) rfl base _ (l ++ encT (s.data.toList.take k)) rfl _ HO.out _ rfl rfl (by have := HL.out; omega) hbr ?_; intro v' w1 hown1 hgrow1)
   go_ret
   exact ⟨_, rfl, by have h := hown1; rw [HE.out] at h; exact h, below_append hnx hbr HO.out hgrow1⟩
def encC (c : Cel) : List UInt8 :=
 if c.k = 0 then [0] else if c.k = 1 then [1, UInt8.ofNat c.n.toNat] else if c.k = 2 then 2 :: be8 (c.n + 9223372036854775808).toNat 8 else 3 :: (encT c.s.data.toList ++ [0, 1])
def Cel.ok (c : Cel) : Prop := chk c.k c.n c.s = 0
theorem chk_cases {k n : Int} {s : ByteArray} (h : chk k n s = 0) :
 s.size ≤ 64 ∧ ((k = 0 ∧ n = 0 ∧ s.size = 0) ∨ (k = 1 ∧ n = 0 ∧ s.size = 0) ∨ (k = 1 ∧ n = 1 ∧ s.size = 0) ∨ (k = 2 ∧ s.size = 0) ∨ (k = 3 ∧ n = 0)) := by
 unfold chk at h
 split at h
 ·omega
 ·split at h
  ·omega
  ·split at h
   ·omega
   ·omega
theorem ownB_alloc {w : World} {base : Nat} {v : Value} {l : List UInt8} (h : ownB w base v l) (o : Obj) : ownB (w.alloc o) base v l := World.ownsRow.alloc h o
theorem box_kept {w w1 : World} {v : Value} {l : List UInt8} {base : Nat} (ho : ownB w base v l) {o1 o2 : Obj} (hg : ((w.alloc o1).alloc o2).grownBy w1 v.ownBlock) (j : Nat) {x : Value}
 (hc : (w.alloc o1).cell? ⟨w.heap.size, j, none⟩ = some x) : w1.cell? ⟨w.heap.size, j, none⟩ = some x := by
 refine hg.cell ?_ ?_
 ·rw [World.cell?_alloc_lt]
  ·exact hc
  ·simp
 ·intro h
  have := (World.ownsRow.lt ho w.heap.size h.symm).2
  omega
set_option maxHeartbeats 1000000 in
theorem appendCell_any (base : Nat) (v : Value) (l : List UInt8) (k n : Int) (s : ByteArray) (w : World) (hb : base ≤ w.heap.size) (ho : ownB w base v l) (hl : l.length ≤ 900000)
 (n1 : -9223372036854775808 ≤ n) (n2 : n ≤ 9223372036854775807) (hc : chk k n s = 0) :
 Calls Tryz.prog 158 #[v, .agg #[.int .i64 k, .int .i64 n, .string s]] w fun e w' => ∃ v', e = .returned v' ∧ ownB w' base v' (l ++ encC ⟨k, n, s⟩) ∧ Below base w w' := by
 obtain ⟨hs, hk⟩ := chk_cases hc
 clear hc
 rcases hk with ⟨rfl, rfl, hs0⟩ | ⟨rfl, rfl, hs0⟩ | ⟨rfl, rfl, hs0⟩ | ⟨rfl, hs0⟩ | ⟨rfl, rfl⟩
 ·go_enter Tryz.func158, Tryz.ntmps158
  go_wp2_with (at_builtin; refine append_byte rfl (.tmp 5) (.tmp 9) rfl base v l rfl _ (ownB_alloc ho _) _ 0 rfl (w.heap.size + 1) (by simp) rfl (by omega) (by simp; omega) ?_; intro v1 w1 hown1 hgrow1; have g0 := box_kept (x := .int .i64 0) ho hgrow1 0 (by go_simp); have g1 := box_kept (x := .int .i64 0) ho hgrow1 1 (by go_simp); have g2 := box_kept (x := .string s) ho hgrow1 2 (by go_simp); have hbl := below_append ((Below.refl base w).alloc hb _) (by simp; omega) (ownB_alloc ho _) hgrow1; have hb1 : base ≤ w1.heap.size := Nat.le_trans hb hbl.size; clear hgrow1)
  go_ret
  exact ⟨_, rfl, hown1, hbl⟩
 ·go_enter Tryz.func158, Tryz.ntmps158
  go_wp2_with (first
   | (at_builtin; refine append_byte rfl (.tmp 5) (.tmp 9) rfl base v l rfl _ (ownB_alloc ho _) _ 1 rfl (w.heap.size + 1) (by simp) rfl (by omega) (by simp; omega) ?_; intro v1 w1 hown1 hgrow1; have g0 := box_kept (x := .int .i64 1) ho hgrow1 0 (by go_simp); have g1 := box_kept (x := .int .i64 0) ho hgrow1 1 (by go_simp); have g2 := box_kept (x := .string s) ho hgrow1 2 (by go_simp); have hbl := below_append ((Below.refl base w).alloc hb _) (by simp; omega) (ownB_alloc ho _) hgrow1; have hb1 : base ≤ w1.heap.size := Nat.le_trans hb hbl.size; clear hgrow1)
   | (at_builtin; refine append_byte rfl (.tmp 15) (.tmp 19) rfl base v1 (l ++ [1]) rfl _ hown1 _ 0 rfl w1.heap.size rfl rfl (by simp; omega) hb1 ?_; intro v2 w2 hown2 hgrow2))
  go_ret
  exact ⟨_, rfl, by simpa [encC, List.append_assoc] using hown2, below_append hbl hb1 hown1 hgrow2⟩
 ·go_enter Tryz.func158, Tryz.ntmps158
  go_wp2_with (first
   | (at_builtin; refine append_byte rfl (.tmp 5) (.tmp 9) rfl base v l rfl _ (ownB_alloc ho _) _ 1 rfl (w.heap.size + 1) (by simp) rfl (by omega) (by simp; omega) ?_; intro v1 w1 hown1 hgrow1; have g0 := box_kept (x := .int .i64 1) ho hgrow1 0 (by go_simp); have g1 := box_kept (x := .int .i64 1) ho hgrow1 1 (by go_simp); have g2 := box_kept (x := .string s) ho hgrow1 2 (by go_simp); have hbl := below_append ((Below.refl base w).alloc hb _) (by simp; omega) (ownB_alloc ho _) hgrow1; have hb1 : base ≤ w1.heap.size := Nat.le_trans hb hbl.size; clear hgrow1)
   | (at_builtin; refine append_byte rfl (.tmp 15) (.tmp 19) rfl base v1 (l ++ [1]) rfl _ hown1 _ 1 rfl w1.heap.size rfl rfl (by simp; omega) hb1 ?_; intro v2 w2 hown2 hgrow2))
  go_ret
  exact ⟨_, rfl, by simpa [encC, List.append_assoc] using hown2, below_append hbl hb1 hown1 hgrow2⟩
 ·go_enter Tryz.func158, Tryz.ntmps158
  go_wp2_with (first
   | (at_builtin; refine append_byte rfl (.tmp 5) (.tmp 9) rfl base v l rfl _ (ownB_alloc ho _) _ 2 rfl (w.heap.size + 1) (by simp) rfl (by omega) (by simp; omega) ?_; intro v1 w1 hown1 hgrow1; have g0 := box_kept (x := .int .i64 2) ho hgrow1 0 (by go_simp); have g1 := box_kept (x := .int .i64 n) ho hgrow1 1 (by go_simp); have g2 := box_kept (x := .string s) ho hgrow1 2 (by go_simp); have hbl := below_append ((Below.refl base w).alloc hb _) (by simp; omega) (ownB_alloc ho _) hgrow1; have hb1 : base ≤ w1.heap.size := Nat.le_trans hb hbl.size; clear hgrow1)
   | (go_at_call 193; refine (appendInt_any base v1 (l ++ [2]) n w1 hb1 hown1 (by simp; omega) n1 n2).mono ?_; rintro e w2 ⟨v2, rfl, hown2, hb2⟩))
  go_ret
  exact ⟨_, rfl, by simpa [encC, List.append_assoc] using hown2, hbl.trans hb2⟩
 ·go_enter Tryz.func158, Tryz.ntmps158
  go_wp2_with (first
   | (at_builtin; refine append_byte rfl (.tmp 5) (.tmp 9) rfl base v l rfl _ (ownB_alloc ho _) _ 3 rfl (w.heap.size + 1) (by simp) rfl (by omega) (by simp; omega) ?_; intro v1 w1 hown1 hgrow1; have g0 := box_kept (x := .int .i64 3) ho hgrow1 0 (by go_simp); have g1 := box_kept (x := .int .i64 0) ho hgrow1 1 (by go_simp); have g2 := box_kept (x := .string s) ho hgrow1 2 (by go_simp); have hbl := below_append ((Below.refl base w).alloc hb _) (by simp; omega) (ownB_alloc ho _) hgrow1; have hb1 : base ≤ w1.heap.size := Nat.le_trans hb hbl.size; clear hgrow1)
   | (go_at_call 194; refine (appendText_any base v1 (l ++ [3]) s w1 hb1 hown1 (by simp; omega) hs).mono ?_; rintro e w2 ⟨v2, rfl, hown2, hb2⟩))
  go_ret
  exact ⟨_, rfl, by simpa [encC, List.append_assoc] using hown2, hbl.trans hb2⟩
def encR (r : List Cel) : List UInt8 := r.flatMap encC
def errR : List Cel → Int
 | [] => 0
 | c :: r => if chk c.k c.n c.s = 0 then errR r else chk c.k c.n c.s
def keyErr (r : List Cel) : Int := if 8 < r.length then 2 else errR r
theorem errR_drop (r : List Cel) (k : Nat) (h : ∀ i, i < k → ((r.getD i default).ok)) : errR r = errR (r.drop k) := by
 induction k generalizing r with
 | zero => rfl
 | succ k ih =>
  match r with
  | [] => rfl
  | c :: r =>
   have h0 : chk c.k c.n c.s = 0 := h 0 (by omega)
   rw [errR, if_pos h0, List.drop_succ_cons]
   exact ih r (fun i hi => h (i + 1) (by omega))
theorem encC_len (c : Cel) (h : c.ok) : (encC c).length ≤ 131 := by
 have hs := (chk_cases h).1
 unfold encC
 split
 ·simp
 ·split
  ·simp
  ·split
   ·simp [be8_len]
   ·have := encT_len c.s.data.toList
    simp only [List.length_cons, List.length_append, List.length_nil]
    have e : c.s.data.toList.length = c.s.size := Array.length_toList
    omega
theorem encR_len (r : List Cel) (h : ∀ c ∈ r, c.ok) : (encR r).length ≤ 131 * r.length := by
 induction r with
 | nil => simp [encR]
 | cons c r ih =>
  have e : encR (c :: r) = encC c ++ encR r := rfl
  have h1 := encC_len c (h c (List.mem_cons_self ..))
  have h2 := ih (fun x hx => h x (List.mem_cons_of_mem _ hx))
  rw [e, List.length_append, List.length_cons]; omega
theorem encR_snoc (r : List Cel) (c : Cel) : encR (r ++ [c]) = encR r ++ encC c := by
 unfold encR; rw [List.flatMap_append]; simp
theorem take_getD (r : List Cel) (k : Nat) (h : k < r.length) : r.take (k + 1) = r.take k ++ [r.getD k default] := by
 rw [List.take_succ_eq_append_getElem h]; simp [List.getD_eq_getElem?_getD, h]
end Go.Proofs.YtdohnkkbkfhphaaGreat.vl
