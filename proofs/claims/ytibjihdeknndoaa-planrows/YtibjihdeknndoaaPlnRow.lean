/- Columns, keysOf, Typed, Row; the document's fitsTypes and RowError. -/
import Derived.Test.YtibjihdeknndoaaPlnGone2
import Derived.Test.YtibjihdeknndoaaValRef
namespace Go.Proofs.Ytibjihdeknndoaa.pl
open Go.ChangeShapes Go.WideShapes Go.ChangeAt Go.RowKit
open vl
set_option linter.unusedVariables false
set_option linter.unusedSimpArgs false
def colsOf (p : Pln) (side : Int) : List Int := if side = 2 then p.right else p.left
def keysOf (p : Pln) (side : Int) : List Int := if side = 2 then p.rkeys else p.lkeys
def cA (x : PA) (side : Int) : Option Addr := if side = 2 then x.r else x.l
def cC (x : PA) (side : Int) : Nat := if side = 2 then x.rc else x.lc
def kA (x : PA) (side : Int) : Option Addr := if side = 2 then x.rk else x.lk
def kC (x : PA) (side : Int) : Nat := if side = 2 then x.rkc else x.lkc
theorem colsAt {w : World} {p : Pln} {x : PA} (h : planAt w p x) (side : Int) : intsAt w (cA x side) (colsOf p side) := by
  unfold cA colsOf; split
  · exact h.r
  · exact h.l
theorem keysAt {w : World} {p : Pln} {x : PA} (h : planAt w p x) (side : Int) : intsAt w (kA x side) (keysOf p side) := by
  unfold kA keysOf; split
  · exact h.rk
  · exact h.lk
theorem colsLen {p : Pln} (h : wfPlan p) (side : Int) : (colsOf p side).length ≤ 9223372036854775807 := by
  unfold colsOf; split
  · exact h.r
  · exact h.l
theorem keysLen {p : Pln} (h : wfPlan p) (side : Int) : (keysOf p side).length ≤ 9223372036854775807 := by
  unfold keysOf; split
  · exact h.rk
  · exact h.lk
def cellB (c : Cel) (t : Int) : Bool := decide (c.k = 0 ∨ c.k = t)
def typedB (r : List Cel) (c : List Int) : Bool := decide (r.length = c.length) && allB r.length (fun i => cellB (r.getD i default) (c.getD i 0))
def rErr (p : Pln) (side : Int) (r : List Cel) : Int :=
  if sideB side = false then 4 else if r.length ≠ (colsOf p side).length then 2 else if errR r ≠ 0 then errR r else if typedB r (colsOf p side) = false then 5 else 0
def rowErr (p : Pln) (side : Int) (r : List Cel) : Int := if planErr p = 0 then rErr p side r else planErr p

set_option maxHeartbeats 1000000 in
theorem columns_any (p : Pln) (x : PA) (side : Int) (w : World) :
    Calls Try.prog 45 #[planV p x, .int .i64 side] w fun e w' => e = .returned (.slice (cA x side) (colsOf p side).length (cC x side)) ∧ Below w.heap.size w w' := by
  unfold cA cC colsOf
  obtain ⟨kind, mode, low, high, size, limit, left, right, lkeys, rkeys, grouped, group, aggs⟩ := p
  obtain ⟨l, lc, r, rc, lk, lkc, rk, rkc, g, gc, a, ac⟩ := x
  unfold planV
  dsimp only
  by_cases hs : side = 2
  · subst hs
    simp only [if_true]
    go_enter Try.func45, Try.ntmps45
    go_wp2
    go_ret
    exact ⟨rfl, (Below.refl _ _).alloc (Nat.le_refl _) _⟩
  · have hs' : (side == 2) = false := by simpa using hs
    simp only [if_neg hs]
    clear hs
    go_enter Try.func45, Try.ntmps45
    go_wp2
    go_ret
    exact ⟨rfl, (Below.refl _ _).alloc (Nat.le_refl _) _⟩
set_option maxHeartbeats 1000000 in
theorem keysOf_fn (p : Pln) (x : PA) (side : Int) (w : World) :
    Calls Try.prog 40 #[planV p x, .int .i64 side] w fun e w' => e = .returned (.slice (kA x side) (keysOf p side).length (kC x side)) ∧ Below w.heap.size w w' := by
  unfold kA kC keysOf
  obtain ⟨kind, mode, low, high, size, limit, left, right, lkeys, rkeys, grouped, group, aggs⟩ := p
  obtain ⟨l, lc, r, rc, lk, lkc, rk, rkc, g, gc, a, ac⟩ := x
  unfold planV
  dsimp only
  by_cases hs : side = 2
  · subst hs
    simp only [if_true]
    go_enter Try.func40, Try.ntmps40
    go_wp2
    go_ret
    exact ⟨rfl, (Below.refl _ _).alloc (Nat.le_refl _) _⟩
  · have hs' : (side == 2) = false := by simpa using hs
    simp only [if_neg hs]
    clear hs
    go_enter Try.func40, Try.ntmps40
    go_wp2
    go_ret
    exact ⟨rfl, (Below.refl _ _).alloc (Nat.le_refl _) _⟩

set_option maxHeartbeats 2000000 in
theorem ty1_any (i : Nat) (B : Nat) (ad : Option Addr) (cp : Nat) (c : List Int) (k n : Int) (s : ByteArray) (w : World) (hi : i < c.length) (hl : c.length ≤ 9223372036854775807) (hc : intsAt w ad c) (hb : w.cell? ⟨B, 0, none⟩ = some (.slice ad c.length cp)) :
    Calls Try.prog 72 #[.int .i64 i, .agg #[.int .i64 k, .int .i64 n, .string s], .pointer (some ⟨B, 0, none⟩)] w fun e w' => e = .returned (.bool (cellB ⟨k, n, s⟩ (c.getD i 0))) ∧ Below w.heap.size w w' := by
  have hBlt := World.block_lt_of_cell? _ _ hb
  have hBlt' : B < w.heap.size := hBlt
  obtain ⟨bc, oc, ec, xc⟩ := hc i hi
  subst ec
  have hclt := World.block_lt_of_cell? _ _ xc
  have hclt' : bc < w.heap.size := hclt
  have HB : Hid (cellB ⟨k, n, s⟩ (c.getD i 0) = decide (k = 0 ∨ k = c.getD i 0)) := rfl
  obtain ⟨m, hm⟩ : ∃ z, c.length = z := ⟨_, rfl⟩
  obtain ⟨t, ht⟩ : ∃ z, c.getD i 0 = z := ⟨_, rfl⟩
  rw [hm] at hi hl hb
  rw [ht] at xc HB ⊢
  have i1 : (0 : Int) ≤ (i : Int) := by omega
  have i2 : (i : Int) < (m : Int) := by omega
  clear hm ht hc hBlt hclt
  by_cases hk : k = 0
  · subst hk
    go_enter Try.func72, Try.ntmps72
    go_wp2
    go_quiet (fail)
    go_wp2
    go_ret
    exact ⟨ret_bool (by rw [HB.out]; simp), below_dn ((Below.refl _ _).alloc (Nat.le_refl _) _) _⟩
  · have hk' : (k == 0) = false := by simpa using hk
    have HB2 : Hid (cellB ⟨k, n, s⟩ t = (k == t)) := by show cellB ⟨k, n, s⟩ t = _; rw [HB.out]; exact Bool.eq_iff_iff.2 (by simp [hk])
    clear hk HB
    go_enter Try.func72, Try.ntmps72
    go_wp2
    go_quiet (fail)
    go_wp2
    go_ret
    exact ⟨ret_bool HB2.out.symm, below_dn ((Below.refl _ _).alloc (Nat.le_refl _) _) _⟩
set_option maxHeartbeats 1000000 in
theorem typed_any (a ad : Option Addr) (ca cp : Nat) (r : List Cel) (c : List Int) (w : World) (hl : r.length ≤ 9223372036854775807) (hcl : c.length ≤ 9223372036854775807) (ha : vl.rowAt w a r) (hc : intsAt w ad c) :
    Calls Try.prog 47 #[.slice a r.length ca, .slice ad c.length cp] w fun e w' => e = .returned (.bool (typedB r c)) ∧ Below w.heap.size w w' := by
  have K : Hid (∀ B w1, Below w.heap.size w w1 → r.length = c.length → w1.cell? ⟨B, 0, none⟩ = some (.slice ad c.length cp) →
      Calls Try.prog 71 #[.slice a r.length ca, .func (.func 72) #[] #[.pointer (some ⟨B, 0, none⟩)]] w1 fun e w' => e = .returned (.bool (allB r.length (fun i => cellB (r.getD i default) (c.getD i 0)))) ∧ Below w1.heap.size w1 w') := by
    intro B w1 hb hlen e0
    exact everyVal_any 72 (enters_of Try.func72 (by kernel_rfl) rfl) #[.pointer (some ⟨B, 0, none⟩)] (fun i => cellB (r.getD i default) (c.getD i 0)) a ca r w1 hl (rowAt_below ha hb)
      (fun i w2 hi hb2 => ty1_any i B ad cp c _ _ _ w2 (by omega) hcl (intsAt_below (intsAt_below hc hb) hb2) (cell_later hb2 e0))
  have HB : Hid (typedB r c = (decide (r.length = c.length) && allB r.length (fun i => cellB (r.getD i default) (c.getD i 0)))) := rfl
  obtain ⟨tb, htb⟩ : ∃ z, allB r.length (fun i => cellB (r.getD i default) (c.getD i 0)) = z := ⟨_, rfl⟩
  rw [htb] at K HB
  obtain ⟨m, hm⟩ : ∃ z, r.length = z := ⟨_, rfl⟩
  obtain ⟨k, hk⟩ : ∃ z, c.length = z := ⟨_, rfl⟩
  rw [hm, hk] at K HB
  rw [hm, hk]
  clear hm hk htb ha hc hl hcl
  by_cases he : m = k
  · subst he
    rw [show decide (m = m) = true by simp] at HB
    have he' : ((m : Int) == m) = true := by simp
    go_enter Try.func47, Try.ntmps47
    go_wp2_with (go_at_call 71; refine (K.out _ _ ((Below.refl _ _).alloc (Nat.le_refl _) _) (by trivial) (by go_simp)).mono ?_; rintro e w1 ⟨rfl, hb1⟩)
    go_ret
    exact ⟨ret_bool (by rw [HB.out]; simp), ((Below.refl _ _).alloc (Nat.le_refl _) _).trans (hb1.mono (by simp))⟩
  · have he' : ((m : Int) == k) = false := by simp; omega
    rw [decide_eq_false he] at HB
    clear he
    go_enter Try.func47, Try.ntmps47
    go_wp2
    go_ret
    exact ⟨ret_bool (by rw [HB.out]; rfl), (Below.refl _ _).alloc (Nat.le_refl _) _⟩

/-- ErrMany and ErrType of a row whose cells may be -/
def fErr (c : List Int) (r : List Cel) : Int := if r.length ≠ c.length then 2 else if typedB r c = false then 5 else 0
theorem fErr_bad {c : List Int} {r : List Cel} {i : Nat} (hl : r.length = c.length) (hi : i < r.length) (h : cellB (r.getD i default) (c.getD i 0) = false) : fErr c r = 5 := by
  unfold fErr typedB
  rw [if_neg (by simp [hl]), allB_no hi h]; simp
theorem fErr_ok {c : List Int} {r : List Cel} (hl : r.length = c.length) (h : ∀ i, i < r.length → cellB (r.getD i default) (c.getD i 0) = true) : fErr c r = 0 := by
  unfold fErr typedB
  rw [if_neg (by simp [hl]), allB_iff.2 h, decide_eq_true hl]; simp
set_option maxHeartbeats 4000000 in
theorem fitsTypes_any (a ad : Option Addr) (ca cp : Nat) (r : List Cel) (c : List Int) (w : World) (hl : r.length ≤ 9223372036854775807) (hcl : c.length ≤ 9223372036854775807) (ha : vl.rowAt w a r) (hc : intsAt w ad c) :
    Calls Try.prog 43 #[.slice ad c.length cp, .slice a r.length ca] w fun e w' => e = .returned (.int .i64 (fErr c r)) ∧ Below w.heap.size w w' := by
  have HA : Hid (vl.rowAt w a r) := ha
  have HC : Hid (intsAt w ad c) := hc
  have HB : Hid (∀ i, r.length = c.length → i < r.length → cellB (r.getD i default) (c.getD i 0) = false → fErr c r = 5) := fun i h1 h2 h3 => fErr_bad h1 h2 h3
  have HO : Hid (r.length = c.length → (∀ i, i < r.length → cellB (r.getD i default) (c.getD i 0) = true) → fErr c r = 0) := fErr_ok
  have HN : Hid (r.length ≠ c.length → fErr c r = 2) := fun h => if_pos h
  obtain ⟨fe, hfe⟩ : ∃ z, fErr c r = z := ⟨_, rfl⟩
  rw [hfe] at HB HO HN ⊢
  obtain ⟨m, hm⟩ : ∃ z, r.length = z := ⟨_, rfl⟩
  obtain ⟨k, hk⟩ : ∃ z, c.length = z := ⟨_, rfl⟩
  have HM : Hid (r.length = m) := hm
  have HK : Hid (c.length = k) := hk
  rw [hm] at hl HB HO HN ⊢
  rw [hk] at hcl HB HO HN ⊢
  clear hfe hm hk ha hc
  by_cases he : m = k
  · subst he
    have he' : ((m : Int) != m) = false := by simp
    go_enter Try.func43, Try.ntmps43
    go_wp2
    go_loopw [5] (fun i wr => ∃ j : Nat, j ≤ m ∧ i = .int .i64 j ∧ Below w.heap.size w wr ∧ ∀ i, i < j → cellB (r.getD i default) (c.getD i 0) = true) (fun i _ => m - (intOf i).toNat)
    case atStart => exact ⟨0, Nat.zero_le _, rfl, Below.refl _ _, fun i hi => absurd hi (Nat.not_lt_zero i)⟩
    case round =>
      obtain ⟨j, hj, rfl, hnx, hall⟩ := hrel
      have HAL : Hid (∀ i, i < j → cellB (r.getD i default) (c.getD i 0) = true) := hall
      clear hall
      by_cases hlt : j < m
      · obtain ⟨b1, o1, e1, x1, x2, x3⟩ := HA.out j (by rw [HM.out]; exact hlt)
        obtain ⟨b2, o2, e2, y1⟩ := HC.out j (by rw [HK.out]; exact hlt)
        subst e1 e2
        have q1 := cell_later hnx x1
        have q2 := cell_later hnx y1
        have i1 : (0 : Int) ≤ (j : Int) := by omega
        have i2 : (j : Int) < (m : Int) := by omega
        have HBJ : Hid (cellB (r.getD j default) (c.getD j 0) = decide ((r.getD j default).k = 0 ∨ (r.getD j default).k = c.getD j 0)) := rfl
        obtain ⟨kv, hkv⟩ : ∃ z, (r.getD j default).k = z := ⟨_, rfl⟩
        obtain ⟨tv, htv⟩ : ∃ z, c.getD j 0 = z := ⟨_, rfl⟩
        rw [hkv] at q1 HBJ
        rw [htv] at q2
        have HBK : Hid (cellB (r.getD j default) (c.getD j 0) = decide (kv = 0 ∨ kv = tv)) := by show cellB (r.getD j default) (c.getD j 0) = _; rw [HBJ.out, htv]
        clear hkv htv x1 x2 x3 y1 HBJ
        have HSTEP : Hid (cellB (r.getD j default) (c.getD j 0) = true → ∀ i, i < j + 1 → cellB (r.getD i default) (c.getD i 0) = true) := fun h i hi => by
          rcases Nat.lt_succ_iff_lt_or_eq.1 hi with h1 | h1
          · exact HAL.out i h1
          · rw [h1]; exact h
        by_cases hk : kv = 0
        · subst hk
          have HX : Hid (cellB (r.getD j default) (c.getD j 0) = true) := by show cellB (r.getD j default) (c.getD j 0) = true; rw [HBK.out]; simp
          go_wp2
          go_quiet (fail)
          go_wp2
          go_roundw
          case rel => exact ⟨j + 1, by omega, by go_num, below_dn hnx _, HSTEP.out HX.out⟩
          case measure => simp [intOf]; omega
        · have hk' : (kv != 0) = true := by simpa using hk
          by_cases ht : kv = tv
          · have ht' : (kv != tv) = false := by simpa using ht
            have HX : Hid (cellB (r.getD j default) (c.getD j 0) = true) := by show cellB (r.getD j default) (c.getD j 0) = true; rw [HBK.out]; exact decide_eq_true (.inr ht)
            clear hk ht
            go_wp2
            go_quiet (fail)
            go_wp2
            go_roundw
            case rel => exact ⟨j + 1, by omega, by go_num, below_dn hnx _, HSTEP.out HX.out⟩
            case measure => simp [intOf]; omega
          · have ht' : (kv != tv) = true := by simpa using ht
            have HX : Hid (fe = 5) := HB.out j (by trivial) hlt (by rw [HBK.out]; exact decide_eq_false (fun h => h.elim hk ht))
            clear hk ht
            go_wp2
            go_quiet (fail)
            go_wp2
            go_ret
            exact ⟨ret_int HX.out.symm, below_dn hnx _⟩
      · have HX : Hid (fe = 0) := HO.out (by trivial) (fun i hi => HAL.out i (by omega))
        go_wp2
        go_ret
        exact ⟨ret_int HX.out.symm, hnx⟩
  · have he' : ((m : Int) != k) = true := by simp; omega
    have HX : Hid (fe = 2) := HN.out he
    clear he
    go_enter Try.func43, Try.ntmps43
    go_wp2
    go_ret
    exact ⟨ret_int HX.out.symm, Below.refl _ _⟩
end Go.Proofs.Ytibjihdeknndoaa.pl
