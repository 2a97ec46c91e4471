/- Several texts in one: PlnRow, PlnRow2, PlnPick, PlnKeyFor, PlnOut, PlnOutOf. -/
import Derived.Test.YtcpanmaahhiioaaGreatMgPlnF
import Derived.Test.YtcpanmaahhiioaaGreatMgValC
/- Columns, keysOf, Typed, Row; the document's fitsTypes and RowError. -/
namespace Go.Proofs.YtcpanmaahhiioaaGreat.pl
open Go.ChangeShapes Go.WideShapes Go.ChangeAt Go.RowKit
open vl
set_option linter.unusedVariables false
set_option linter.unusedSimpArgs false
def colsOf (p : Pln) (side : Int) : List Int := if side = 2 then p.right else p.left
def keysOf (p : Pln) (side : Int) : List Int := if side = 2 then p.rkeys else p.lkeys
def cA (x : PA) (side : Int) : Option Addr := if side = 2 then x.r else x.l
def cC (x : PA) (side : Int) : Nat := if side = 2 then x.rc else x.lc
def kA (x : PA) (side : Int) : Option Addr := if side = 2 then x.rk else x.lk
def kC (x : PA) (side : Int) : Nat := if side = 2 then x.rkc else x.lkc
theorem colsAt {w : World} {p : Pln} {x : PA} (h : planAt w p x) (side : Int) : intsAt w (cA x side) (colsOf p side) := by
  unfold cA colsOf; split
  · exact h.r
  · exact h.l
theorem keysAt {w : World} {p : Pln} {x : PA} (h : planAt w p x) (side : Int) : intsAt w (kA x side) (keysOf p side) := by
  unfold kA keysOf; split
  · exact h.rk
  · exact h.lk
theorem colsLen {p : Pln} (h : wfPlan p) (side : Int) : (colsOf p side).length ≤ 9223372036854775807 := by
  unfold colsOf; split
  · exact h.r
  · exact h.l
theorem keysLen {p : Pln} (h : wfPlan p) (side : Int) : (keysOf p side).length ≤ 9223372036854775807 := by
  unfold keysOf; split
  · exact h.rk
  · exact h.lk
def cellB (c : Cel) (t : Int) : Bool := decide (c.k = 0 ∨ c.k = t)
def typedB (r : List Cel) (c : List Int) : Bool := decide (r.length = c.length) && allB r.length (fun i => cellB (r.getD i default) (c.getD i 0))
def rErr (p : Pln) (side : Int) (r : List Cel) : Int :=
  if sideB side = false then 4 else if r.length ≠ (colsOf p side).length then 2 else if errR r ≠ 0 then errR r else if typedB r (colsOf p side) = false then 5 else 0
def rowErr (p : Pln) (side : Int) (r : List Cel) : Int := if planErr p = 0 then rErr p side r else planErr p

set_option maxHeartbeats 1000000 in
theorem columns_any (p : Pln) (x : PA) (side : Int) (w : World) :
    Calls Tryz.prog 114 #[planV p x, .int .i64 side] w fun e w' => e = .returned (.slice (cA x side) (colsOf p side).length (cC x side)) ∧ Below w.heap.size w w' := by
  unfold cA cC colsOf
  obtain ⟨kind, mode, low, high, size, limit, left, right, lkeys, rkeys, grouped, group, aggs⟩ := p
  obtain ⟨l, lc, r, rc, lk, lkc, rk, rkc, g, gc, a, ac⟩ := x
  unfold planV
  dsimp only
  by_cases hs : side = 2
  · subst hs
    simp only [if_true]
    go_enter Tryz.func114, Tryz.ntmps114
    go_wp2
    go_ret
    exact ⟨rfl, (Below.refl _ _).alloc (Nat.le_refl _) _⟩
  · have hs' : (side == 2) = false := by simpa using hs
    simp only [if_neg hs]
    clear hs
    go_enter Tryz.func114, Tryz.ntmps114
    go_wp2
    go_ret
    exact ⟨rfl, (Below.refl _ _).alloc (Nat.le_refl _) _⟩
set_option maxHeartbeats 1000000 in
theorem keysOf_fn (p : Pln) (x : PA) (side : Int) (w : World) :
    Calls Tryz.prog 111 #[planV p x, .int .i64 side] w fun e w' => e = .returned (.slice (kA x side) (keysOf p side).length (kC x side)) ∧ Below w.heap.size w w' := by
  unfold kA kC keysOf
  obtain ⟨kind, mode, low, high, size, limit, left, right, lkeys, rkeys, grouped, group, aggs⟩ := p
  obtain ⟨l, lc, r, rc, lk, lkc, rk, rkc, g, gc, a, ac⟩ := x
  unfold planV
  dsimp only
  by_cases hs : side = 2
  · subst hs
    simp only [if_true]
    go_enter Tryz.func111, Tryz.ntmps111
    go_wp2
    go_ret
    exact ⟨rfl, (Below.refl _ _).alloc (Nat.le_refl _) _⟩
  · have hs' : (side == 2) = false := by simpa using hs
    simp only [if_neg hs]
    clear hs
    go_enter Tryz.func111, Tryz.ntmps111
    go_wp2
    go_ret
    exact ⟨rfl, (Below.refl _ _).alloc (Nat.le_refl _) _⟩

set_option maxHeartbeats 2000000 in
theorem ty1_any (i : Nat) (B : Nat) (ad : Option Addr) (cp : Nat) (c : List Int) (k n : Int) (s : ByteArray) (w : World) (hi : i < c.length) (hl : c.length ≤ 9223372036854775807) (hc : intsAt w ad c) (hb : w.cell? ⟨B, 0, none⟩ = some (.slice ad c.length cp)) :
    Calls Tryz.prog 152 #[.int .i64 i, .agg #[.int .i64 k, .int .i64 n, .string s], .pointer (some ⟨B, 0, none⟩)] w fun e w' => e = .returned (.bool (cellB ⟨k, n, s⟩ (c.getD i 0))) ∧ Below w.heap.size w w' := by
  have hBlt := World.block_lt_of_cell? _ _ hb
  have hBlt' : B < w.heap.size := hBlt
  obtain ⟨bc, oc, ec, xc⟩ := hc i hi
  subst ec
  have hclt := World.block_lt_of_cell? _ _ xc
  have hclt' : bc < w.heap.size := hclt
  have HB : Hid (cellB ⟨k, n, s⟩ (c.getD i 0) = decide (k = 0 ∨ k = c.getD i 0)) := rfl
  obtain ⟨m, hm⟩ : ∃ z, c.length = z := ⟨_, rfl⟩
  obtain ⟨t, ht⟩ : ∃ z, c.getD i 0 = z := ⟨_, rfl⟩
  rw [hm] at hi hl hb
  rw [ht] at xc HB ⊢
  have i1 : (0 : Int) ≤ (i : Int) := by omega
  have i2 : (i : Int) < (m : Int) := by omega
  clear hm ht hc hBlt hclt
  by_cases hk : k = 0
  · subst hk
    go_enter Tryz.func152, Tryz.ntmps152
    go_wp2
    go_quiet (fail)
    go_wp2
    go_ret
    exact ⟨ret_bool (by rw [HB.out]; simp), below_dn ((Below.refl _ _).alloc (Nat.le_refl _) _) _⟩
  · have hk' : (k == 0) = false := by simpa using hk
    have HB2 : Hid (cellB ⟨k, n, s⟩ t = (k == t)) := by show cellB ⟨k, n, s⟩ t = _; rw [HB.out]; exact Bool.eq_iff_iff.2 (by simp [hk])
    clear hk HB
    go_enter Tryz.func152, Tryz.ntmps152
    go_wp2
    go_quiet (fail)
    go_wp2
    go_ret
    exact ⟨ret_bool HB2.out.symm, below_dn ((Below.refl _ _).alloc (Nat.le_refl _) _) _⟩
set_option maxHeartbeats 1000000 in
theorem typed_any (a ad : Option Addr) (ca cp : Nat) (r : List Cel) (c : List Int) (w : World) (hl : r.length ≤ 9223372036854775807) (hcl : c.length ≤ 9223372036854775807) (ha : vl.rowAt w a r) (hc : intsAt w ad c) :
    Calls Tryz.prog 121 #[.slice a r.length ca, .slice ad c.length cp] w fun e w' => e = .returned (.bool (typedB r c)) ∧ Below w.heap.size w w' := by
  have K : Hid (∀ B w1, Below w.heap.size w w1 → r.length = c.length → w1.cell? ⟨B, 0, none⟩ = some (.slice ad c.length cp) →
      Calls Tryz.prog 151 #[.slice a r.length ca, .func (.func 152) #[] #[.pointer (some ⟨B, 0, none⟩)]] w1 fun e w' => e = .returned (.bool (allB r.length (fun i => cellB (r.getD i default) (c.getD i 0)))) ∧ Below w1.heap.size w1 w') := by
    intro B w1 hb hlen e0
    exact everyVal_any 152 (enters_of Tryz.func152 (by kernel_rfl) rfl) #[.pointer (some ⟨B, 0, none⟩)] (fun i => cellB (r.getD i default) (c.getD i 0)) a ca r w1 hl (rowAt_below ha hb)
      (fun i w2 hi hb2 => ty1_any i B ad cp c _ _ _ w2 (by omega) hcl (intsAt_below (intsAt_below hc hb) hb2) (cell_later hb2 e0))
  have HB : Hid (typedB r c = (decide (r.length = c.length) && allB r.length (fun i => cellB (r.getD i default) (c.getD i 0)))) := rfl
  obtain ⟨tb, htb⟩ : ∃ z, allB r.length (fun i => cellB (r.getD i default) (c.getD i 0)) = z := ⟨_, rfl⟩
  rw [htb] at K HB
  obtain ⟨m, hm⟩ : ∃ z, r.length = z := ⟨_, rfl⟩
  obtain ⟨k, hk⟩ : ∃ z, c.length = z := ⟨_, rfl⟩
  rw [hm, hk] at K HB
  rw [hm, hk]
  clear hm hk htb ha hc hl hcl
  by_cases he : m = k
  · subst he
    rw [show decide (m = m) = true by simp] at HB
    have he' : ((m : Int) == m) = true := by simp
    go_enter Tryz.func121, Tryz.ntmps121
    go_wp2_with (go_at_call 151; refine (K.out _ _ ((Below.refl _ _).alloc (Nat.le_refl _) _) (by trivial) (by go_simp)).mono ?_; rintro e w1 ⟨rfl, hb1⟩)
    go_ret
    exact ⟨ret_bool (by rw [HB.out]; simp), ((Below.refl _ _).alloc (Nat.le_refl _) _).trans (hb1.mono (by simp))⟩
  · have he' : ((m : Int) == k) = false := by simp; omega
    rw [decide_eq_false he] at HB
    clear he
    go_enter Tryz.func121, Tryz.ntmps121
    go_wp2
    go_ret
    exact ⟨ret_bool (by rw [HB.out]; rfl), (Below.refl _ _).alloc (Nat.le_refl _) _⟩

/-- ErrMany and ErrType of a row whose cells may be -/
def fErr (c : List Int) (r : List Cel) : Int := if r.length ≠ c.length then 2 else if typedB r c = false then 5 else 0
theorem fErr_bad {c : List Int} {r : List Cel} {i : Nat} (hl : r.length = c.length) (hi : i < r.length) (h : cellB (r.getD i default) (c.getD i 0) = false) : fErr c r = 5 := by
  unfold fErr typedB
  rw [if_neg (by simp [hl]), allB_no hi h]; simp
theorem fErr_ok {c : List Int} {r : List Cel} (hl : r.length = c.length) (h : ∀ i, i < r.length → cellB (r.getD i default) (c.getD i 0) = true) : fErr c r = 0 := by
  unfold fErr typedB
  rw [if_neg (by simp [hl]), allB_iff.2 h, decide_eq_true hl]; simp
set_option maxHeartbeats 4000000 in
theorem fitsTypes_any (a ad : Option Addr) (ca cp : Nat) (r : List Cel) (c : List Int) (w : World) (hl : r.length ≤ 9223372036854775807) (hcl : c.length ≤ 9223372036854775807) (ha : vl.rowAt w a r) (hc : intsAt w ad c) :
    Calls Tryz.prog 58 #[.slice ad c.length cp, .slice a r.length ca] w fun e w' => e = .returned (.int .i64 (fErr c r)) ∧ Below w.heap.size w w' := by
  have HA : Hid (vl.rowAt w a r) := ha
  have HC : Hid (intsAt w ad c) := hc
  have HB : Hid (∀ i, r.length = c.length → i < r.length → cellB (r.getD i default) (c.getD i 0) = false → fErr c r = 5) := fun i h1 h2 h3 => fErr_bad h1 h2 h3
  have HO : Hid (r.length = c.length → (∀ i, i < r.length → cellB (r.getD i default) (c.getD i 0) = true) → fErr c r = 0) := fErr_ok
  have HN : Hid (r.length ≠ c.length → fErr c r = 2) := fun h => if_pos h
  obtain ⟨fe, hfe⟩ : ∃ z, fErr c r = z := ⟨_, rfl⟩
  rw [hfe] at HB HO HN ⊢
  obtain ⟨m, hm⟩ : ∃ z, r.length = z := ⟨_, rfl⟩
  obtain ⟨k, hk⟩ : ∃ z, c.length = z := ⟨_, rfl⟩
  have HM : Hid (r.length = m) := hm
  have HK : Hid (c.length = k) := hk
  rw [hm] at hl HB HO HN ⊢
  rw [hk] at hcl HB HO HN ⊢
  clear hfe hm hk ha hc
  by_cases he : m = k
  · subst he
    have he' : ((m : Int) != m) = false := by simp
    go_enter Tryz.func58, Tryz.ntmps58
    go_wp2
    go_loopw [5] (fun i wr => ∃ j : Nat, j ≤ m ∧ i = .int .i64 j ∧ Below w.heap.size w wr ∧ ∀ i, i < j → cellB (r.getD i default) (c.getD i 0) = true) (fun i _ => m - (intOf i).toNat)
    case atStart => exact ⟨0, Nat.zero_le _, rfl, Below.refl _ _, fun i hi => absurd hi (Nat.not_lt_zero i)⟩
    case round =>
      obtain ⟨j, hj, rfl, hnx, hall⟩ := hrel
      have HAL : Hid (∀ i, i < j → cellB (r.getD i default) (c.getD i 0) = true) := hall
      clear hall
      by_cases hlt : j < m
      · obtain ⟨b1, o1, e1, x1, x2, x3⟩ := HA.out j (by rw [HM.out]; exact hlt)
        obtain ⟨b2, o2, e2, y1⟩ := HC.out j (by rw [HK.out]; exact hlt)
        subst e1 e2
        have q1 := cell_later hnx x1
        have q2 := cell_later hnx y1
        have i1 : (0 : Int) ≤ (j : Int) := by omega
        have i2 : (j : Int) < (m : Int) := by omega
        have HBJ : Hid (cellB (r.getD j default) (c.getD j 0) = decide ((r.getD j default).k = 0 ∨ (r.getD j default).k = c.getD j 0)) := rfl
        obtain ⟨kv, hkv⟩ : ∃ z, (r.getD j default).k = z := ⟨_, rfl⟩
        obtain ⟨tv, htv⟩ : ∃ z, c.getD j 0 = z := ⟨_, rfl⟩
        rw [hkv] at q1 HBJ
        rw [htv] at q2
        have HBK : Hid (cellB (r.getD j default) (c.getD j 0) = decide (kv = 0 ∨ kv = tv)) := by show cellB (r.getD j default) (c.getD j 0) = _; rw [HBJ.out, htv]
        clear hkv htv x1 x2 x3 y1 HBJ
        have HSTEP : Hid (cellB (r.getD j default) (c.getD j 0) = true → ∀ i, i < j + 1 → cellB (r.getD i default) (c.getD i 0) = true) := fun h i hi => by
          rcases Nat.lt_succ_iff_lt_or_eq.1 hi with h1 | h1
          · exact HAL.out i h1
          · rw [h1]; exact h
        by_cases hk : kv = 0
        · subst hk
          have HX : Hid (cellB (r.getD j default) (c.getD j 0) = true) := by show cellB (r.getD j default) (c.getD j 0) = true; rw [HBK.out]; simp
          go_wp2
          go_quiet (fail)
          go_wp2
          go_roundw
          case rel => exact ⟨j + 1, by omega, by go_num, below_dn hnx _, HSTEP.out HX.out⟩
          case measure => simp [intOf]; omega
        · have hk' : (kv != 0) = true := by simpa using hk
          by_cases ht : kv = tv
          · have ht' : (kv != tv) = false := by simpa using ht
            have HX : Hid (cellB (r.getD j default) (c.getD j 0) = true) := by show cellB (r.getD j default) (c.getD j 0) = true; rw [HBK.out]; exact decide_eq_true (.inr ht)
            clear hk ht
            go_wp2
            go_quiet (fail)
            go_wp2
            go_roundw
            case rel => exact ⟨j + 1, by omega, by go_num, below_dn hnx _, HSTEP.out HX.out⟩
            case measure => simp [intOf]; omega
          · have ht' : (kv != tv) = true := by simpa using ht
            have HX : Hid (fe = 5) := HB.out j (by trivial) hlt (by rw [HBK.out]; exact decide_eq_false (fun h => h.elim hk ht))
            clear hk ht
            go_wp2
            go_quiet (fail)
            go_wp2
            go_ret
            exact ⟨ret_int HX.out.symm, below_dn hnx _⟩
      · have HX : Hid (fe = 0) := HO.out (by trivial) (fun i hi => HAL.out i (by omega))
        go_wp2
        go_ret
        exact ⟨ret_int HX.out.symm, hnx⟩
  · have he' : ((m : Int) != k) = true := by simp; omega
    have HX : Hid (fe = 2) := HN.out he
    clear he
    go_enter Tryz.func58, Tryz.ntmps58
    go_wp2
    go_ret
    exact ⟨ret_int HX.out.symm, Below.refl _ _⟩
end Go.Proofs.YtcpanmaahhiioaaGreat.pl

/- Row and the document's RowError. -/
namespace Go.Proofs.YtcpanmaahhiioaaGreat.pl
open Go.ChangeShapes Go.WideShapes Go.ChangeAt Go.RowKit
open vl
set_option linter.unusedVariables false
set_option linter.unusedSimpArgs false
def rErr4 (sb : Bool) (n m : Nat) (er : Int) (tb : Bool) : Int := if sb = false then 4 else if n ≠ m then 2 else if er ≠ 0 then er else if tb = false then 5 else 0
set_option maxRecDepth 10000 in
set_option maxHeartbeats 4000000 in
theorem row_any (p : Pln) (x : PA) (side : Int) (ar : Option Addr) (cr : Nat) (r : List Cel) (w : World) (hw : wfPlan p) (hp : planAt w p x) (hr : vl.rowAt w ar r) (hwr : wfRow r) (hlr : r.length ≤ 9223372036854775807) :
    Calls Tryz.prog 110 #[planV p x, .int .i64 side, .slice ar r.length cr] w fun e w' => e = .returned (.int .i64 (rowErr p side r)) ∧ Below w.heap.size w w' := by
  have K1 : Hid (∀ w1, Below w.heap.size w w1 → Calls Tryz.prog 71 #[planV p x] w1 fun e w' => e = .returned (.int .i64 (planErr p)) ∧ Below w1.heap.size w1 w') := fun w1 hb => planCheck_any p x w1 hw (planAt_below hp hb)
  have K2 : Hid (∀ w1, Calls Tryz.prog 114 #[planV p x, .int .i64 side] w1 fun e w' => e = .returned (.slice (cA x side) (colsOf p side).length (cC x side)) ∧ Below w1.heap.size w1 w') := fun w1 => columns_any p x side w1
  have K3 : Hid (∀ w1, Below w.heap.size w w1 → Calls Tryz.prog 121 #[.slice ar r.length cr, .slice (cA x side) (colsOf p side).length (cC x side)] w1 fun e w' => e = .returned (.bool (typedB r (colsOf p side))) ∧ Below w1.heap.size w1 w') := fun w1 hb => typed_any ar (cA x side) cr (cC x side) r (colsOf p side) w1 hlr (colsLen hw side) (rowAt_below hr hb) (intsAt_below (colsAt hp side) hb)
  have HE : Hid (rowErr p side r = if planErr p = 0 then rErr4 (sideB side) r.length (colsOf p side).length (errR r) (typedB r (colsOf p side)) else planErr p) := rfl
  have hcl := colsLen hw side
  have HR : Hid (vl.rowAt w ar r) := hr
  obtain ⟨pe, hpe⟩ : ∃ z, planErr p = z := ⟨_, rfl⟩
  obtain ⟨res, hres⟩ : ∃ z, rowErr p side r = z := ⟨_, rfl⟩
  obtain ⟨ca, hca⟩ : ∃ z, cA x side = z := ⟨_, rfl⟩
  obtain ⟨cc, hcc⟩ : ∃ z, cC x side = z := ⟨_, rfl⟩
  obtain ⟨ka, hka⟩ : ∃ z, kA x side = z := ⟨_, rfl⟩
  obtain ⟨kc, hkc⟩ : ∃ z, kC x side = z := ⟨_, rfl⟩
  obtain ⟨cn, hcn⟩ : ∃ z, (colsOf p side).length = z := ⟨_, rfl⟩
  obtain ⟨kn, hkn⟩ : ∃ z, (keysOf p side).length = z := ⟨_, rfl⟩
  obtain ⟨tb, htb⟩ : ∃ z, typedB r (colsOf p side) = z := ⟨_, rfl⟩
  rw [hpe] at K1 HE
  rw [hca, hcc, hcn] at K2
  rw [hca, hcc, hcn, htb] at K3
  rw [hres, hcn, htb] at HE
  rw [hcn] at hcl
  rw [hres]
  clear hpe hres hca hcc hka hkc hcn hkn htb hp hw hr
  obtain ⟨n, hn⟩ : ∃ z, r.length = z := ⟨_, rfl⟩
  have HN : Hid (r.length = n) := hn
  rw [hn] at K3 HE hlr ⊢
  clear hn
  obtain ⟨kind, mode, low, high, size, limit, left, right, lkeys, rkeys, grouped, group, aggs⟩ := p
  obtain ⟨l, lc, rr, rc, lk, lkc, rk, rkc, g, gc, a, ac⟩ := x
  unfold planV at K1 K2 ⊢
  dsimp only at K1 K2 ⊢
  obtain ⟨n6, h6⟩ : ∃ n, left.length = n := ⟨_, rfl⟩
  obtain ⟨n7, h7⟩ : ∃ n, right.length = n := ⟨_, rfl⟩
  obtain ⟨n8, h8⟩ : ∃ n, lkeys.length = n := ⟨_, rfl⟩
  obtain ⟨n9, h9⟩ : ∃ n, rkeys.length = n := ⟨_, rfl⟩
  obtain ⟨n11, h11⟩ : ∃ n, group.length = n := ⟨_, rfl⟩
  obtain ⟨n12, h12⟩ : ∃ n, aggs.length = n := ⟨_, rfl⟩
  rw [h6, h7, h8, h9, h11, h12] at K1 K2
  rw [h6, h7, h8, h9, h11, h12]
  clear h6 h7 h8 h9 h11 h12
  go_enter Tryz.func110, Tryz.ntmps110
  go_wp2_with fail
  refine (K1.out _ ((Below.refl _ _).alloc (Nat.le_refl _) _)).mono ?_
  rintro e w1 ⟨rfl, hb1⟩
  have hba := ((Below.refl _ _).alloc (Nat.le_refl _) _).trans (hb1.mono (by simp))
  obtain ⟨hc1, hf1⟩ := bcell hb1
  by_cases h0 : pe = 0
  · subst h0
    rw [if_pos rfl] at HE
    cases hsb : sideB side
    · rw [hsb] at HE
      go_wp2_with (go_at_call 147; refine (isSide_any _ _).mono ?_; rintro e w' ⟨rfl, hw⟩; subst hw)
      go_ret
      exact ⟨ret_int (by rw [HE.out]; rfl), hba⟩
    rw [hsb] at HE
    go_wp2_with fail
    refine (isSide_any _ _).mono ?_
    rintro e w' ⟨rfl, hw'⟩
    subst hw'
    rw [hsb]
    go_wp2_with fail
    refine (K2.out _).mono ?_
    rintro e w2 ⟨rfl, hb2⟩
    have hbb := hba.trans (hb2.mono hba.size)
    clear hc1 hf1 K1 K2 hb1 hb2
    by_cases hnc : n = cn
    · subst hnc
      have hnc' : ((n : Int) != n) = false := by simp
      go_wp2
      go_loopw [11, 30] (fun _ i wr => ∃ j : Nat, j ≤ n ∧ i = .int .i64 j ∧ Below w.heap.size w wr ∧ ∀ i, i < j → (r.getD i default).ok) (fun _ i _ => n - (intOf i).toNat)
      case atStart => exact ⟨0, Nat.zero_le _, rfl, hbb, fun i hi => absurd hi (Nat.not_lt_zero i)⟩
      case round =>
        obtain ⟨j, hj, rfl, hnx, hall⟩ := hrel
        have HAL : Hid (∀ i, i < j → (r.getD i default).ok) := hall
        have hsz := hnx.size
        clear hall
        by_cases hlt : j < n
        · obtain ⟨b1, o1, e1, x1, x2, x3⟩ := HR.out j (by rw [HN.out]; exact hlt)
          subst e1
          have q1 := cell_later hnx x1
          have q2 := cell_later hnx x2
          have q3 := cell_later hnx x3
          have hww := wf_at hwr j (by rw [HN.out]; exact hlt)
          have HER : Hid (¬ (r.getD j default).ok → errR r = chk (r.getD j default).k (r.getD j default).n (r.getD j default).s) := errR_at r j (by rw [HN.out]; exact hlt) HAL.out
          have HOK : Hid ((r.getD j default).ok ↔ chk (r.getD j default).k (r.getD j default).n (r.getD j default).s = 0) := Iff.rfl
          have HST : Hid ((r.getD j default).ok → ∀ i, i < j + 1 → (r.getD i default).ok) := fun h i hi => by
            rcases Nat.lt_succ_iff_lt_or_eq.1 hi with h1 | h1
            · exact HAL.out i h1
            · rw [h1]; exact h
          obtain ⟨OK, hOK⟩ : ∃ z, (r.getD j default).ok = z := ⟨_, rfl⟩
          rw [hOK] at HER HOK HST
          obtain ⟨⟨kv, nv, sv⟩, hcv⟩ : ∃ z, r.getD j default = z := ⟨_, rfl⟩
          rw [hcv] at q1 q2 q3 hww HER HOK
          dsimp only at q1 q2 q3 hww HER HOK
          obtain ⟨⟨w1a, w2a⟩, w3a⟩ := hww
          have i1 : (0 : Int) ≤ (j : Int) := by omega
          have i2 : (j : Int) < (n : Int) := by omega
          clear hOK hcv x1 x2 x3
          by_cases hc : chk kv nv sv = 0
          · have hc' : (chk kv nv sv != 0) = false := by simpa using hc
            have HO : Hid OK := HOK.out.2 hc
            clear hc
            go_wp2_with (go_at_call 86; refine (vl.check_any _ _ _ _ w3a).mono ?_; rintro e wc ⟨rfl, hbc⟩; have hlow := (hnx.alloc hsz _).trans (hbc.mono (by simp; omega)))
            go_roundw
            case rel => exact ⟨j + 1, by omega, by go_num, hlow, HST.out HO.out⟩
            case measure => simp [intOf]; omega
          · have hc' : (chk kv nv sv != 0) = true := by simpa using hc
            have HX : Hid (res = chk kv nv sv) := by
              show res = _
              rw [HE.out, HER.out (fun h => hc (HOK.out.1 h))]
              unfold rErr4
              rw [if_neg (by decide), if_neg (by simp), if_pos hc]
            clear hc
            go_wp2_with (go_at_call 86; refine (vl.check_any _ _ _ _ w3a).mono ?_; rintro e wc ⟨rfl, hbc⟩; have hlow := (hnx.alloc hsz _).trans (hbc.mono (by simp; omega)))
            go_ret
            exact ⟨ret_int HX.out.symm, hlow⟩
        · have HX : Hid (res = if tb = false then 5 else 0) := by
            show res = _
            rw [HE.out, errR_end r j (by rw [HN.out]; omega) HAL.out]
            unfold rErr4
            rw [if_neg (by decide), if_neg (by simp), if_neg (by simp)]
          go_wp2_with fail
          refine (K3.out _ hnx).mono ?_
          rintro e w3 ⟨rfl, hb3⟩
          have hbc := hnx.trans (hb3.mono hsz)
          cases tb
          all_goals
            go_wp2
            go_ret
            exact ⟨ret_int HX.out.symm, hbc⟩
    · have hnc' : ((n : Int) != cn) = true := by simp; omega
      have HX : Hid (res = 2) := by
        show res = 2
        rw [HE.out]
        unfold rErr4
        rw [if_neg (by decide), if_pos hnc]
      clear hnc
      go_wp2
      go_ret
      exact ⟨ret_int HX.out.symm, hbb⟩
  · have h0' : (pe != 0) = true := by simpa using h0
    have HX : Hid (res = pe) := by show res = pe; rw [HE.out, if_neg h0]
    clear h0
    go_wp2
    go_ret
    exact ⟨ret_int HX.out.symm, hba⟩

theorem errR_key {r : List Cel} (h : r.length ≤ 8) : keyErr r = errR r := by unfold keyErr; rw [if_neg (by omega)]
set_option maxRecDepth 10000 in
set_option maxHeartbeats 4000000 in
theorem rowError_any (p : Pln) (x : PA) (side : Int) (ar : Option Addr) (cr : Nat) (r : List Cel) (w : World) (hw : wfPlan p) (hp : planAt w p x) (hm : planErr p = 0) (hr : vl.rowAt w ar r) (hwr : wfRow r) (hlr : r.length ≤ 9223372036854775807) :
    Calls Tryz.prog 32 #[planV p x, .int .i64 side, .slice ar r.length cr] w fun e w' => e = .returned (.int .i64 (rErr p side r)) ∧ Below w.heap.size w w' := by
  have hml := many_len (planErr_ok hm).2.2.1
  have K1 : Hid (∀ w1, Below w.heap.size w w1 → Calls Tryz.prog 80 #[.slice ar r.length cr] w1 fun e w' => e = .returned (.int .i64 (keyErr r)) ∧ Below w1.heap.size w1 w') := fun w1 hb => vl.keyError_any ar cr r w1 (rowAt_below hr hb) hwr hlr
  have K2 : Hid (∀ w1, Below w.heap.size w w1 → Calls Tryz.prog 58 #[.slice (cA x side) (colsOf p side).length (cC x side), .slice ar r.length cr] w1 fun e w' => e = .returned (.int .i64 (fErr (colsOf p side) r)) ∧ Below w1.heap.size w1 w') := fun w1 hb => fitsTypes_any ar (cA x side) cr (cC x side) r (colsOf p side) w1 hlr (colsLen hw side) (rowAt_below hr hb) (intsAt_below (colsAt hp side) hb)
  have HE : Hid (rErr p side r = rErr4 (sideB side) r.length (colsOf p side).length (errR r) (typedB r (colsOf p side))) := rfl
  have HF : Hid (fErr (colsOf p side) r = if r.length ≠ (colsOf p side).length then 2 else if typedB r (colsOf p side) = false then 5 else 0) := rfl
  have HKE : Hid (r.length = (colsOf p side).length → keyErr r = errR r) := fun h => errR_key (by rw [h]; unfold colsOf; split <;> omega)
  have H2 : Hid (side = 2 → cA x side = x.r ∧ cC x side = x.rc ∧ (colsOf p side).length = p.right.length) := fun h => by show cA x side = x.r ∧ cC x side = x.rc ∧ _; unfold cA cC colsOf; simp only [if_pos h]; exact ⟨trivial, trivial, trivial⟩
  have H1 : Hid (¬ side = 2 → cA x side = x.l ∧ cC x side = x.lc ∧ (colsOf p side).length = p.left.length) := fun h => by show cA x side = x.l ∧ cC x side = x.lc ∧ _; unfold cA cC colsOf; simp only [if_neg h]; exact ⟨trivial, trivial, trivial⟩
  have hcl := colsLen hw side
  obtain ⟨res, hres⟩ : ∃ z, rErr p side r = z := ⟨_, rfl⟩
  obtain ⟨ca, hca⟩ : ∃ z, cA x side = z := ⟨_, rfl⟩
  obtain ⟨cc, hcc⟩ : ∃ z, cC x side = z := ⟨_, rfl⟩
  obtain ⟨cn, hcn⟩ : ∃ z, (colsOf p side).length = z := ⟨_, rfl⟩
  obtain ⟨tb, htb⟩ : ∃ z, typedB r (colsOf p side) = z := ⟨_, rfl⟩
  obtain ⟨ke, hke⟩ : ∃ z, keyErr r = z := ⟨_, rfl⟩
  obtain ⟨er, her⟩ : ∃ z, errR r = z := ⟨_, rfl⟩
  obtain ⟨fe, hfe⟩ : ∃ z, fErr (colsOf p side) r = z := ⟨_, rfl⟩
  rw [hke] at K1 HKE
  rw [hca, hcc, hcn, hfe] at K2
  rw [hres, hcn, htb, her] at HE
  rw [hfe, hcn, htb] at HF
  rw [her, hcn] at HKE
  rw [hca, hcc, hcn] at H1 H2
  rw [hcn] at hcl
  rw [hres]
  clear hres hca hcc hcn htb hke her hfe hp hw hr hm hml
  obtain ⟨n, hn⟩ : ∃ z, r.length = z := ⟨_, rfl⟩
  rw [hn] at K1 K2 HE HF HKE hlr ⊢
  clear hn hwr
  obtain ⟨kind, mode, low, high, size, limit, left, right, lkeys, rkeys, grouped, group, aggs⟩ := p
  obtain ⟨l, lc, rr, rc, lk, lkc, rk, rkc, g, gc, a, ac⟩ := x
  unfold planV
  dsimp only at H1 H2 ⊢
  obtain ⟨n6, h6⟩ : ∃ n, left.length = n := ⟨_, rfl⟩
  obtain ⟨n7, h7⟩ : ∃ n, right.length = n := ⟨_, rfl⟩
  rw [h6] at H1 ⊢
  rw [h7] at H2 ⊢
  clear h6 h7
  cases hsb : sideB side
  · rw [hsb] at HE
    have hns : ¬ (side = 1 ∨ side = 2) := of_decide_eq_false hsb
    have s2 : (side == 2) = false := by simp; omega
    have s1 : (side != 1) = true := by simp; omega
    clear hns
    go_enter Tryz.func32, Tryz.ntmps32
    go_wp2
    go_ret
    exact ⟨ret_int (by rw [HE.out]; rfl), (Below.refl _ _).alloc (Nat.le_refl _) _⟩
  rw [hsb] at HE
  have hsd : side = 1 ∨ side = 2 := of_decide_eq_true hsb
  rcases hsd with rfl | rfl
  · obtain ⟨rfl, rfl, rfl⟩ := H1.out (by decide)
    clear H1 H2 hsb
    by_cases hnc : n = cn
    · subst hnc
      have hnc' : ((n : Int) != n) = false := by simp
      have hk := HKE.out (by trivial)
      subst hk
      clear HKE
      go_enter Tryz.func32, Tryz.ntmps32
      go_wp2_with fail
      refine (K1.out _ ((Below.refl _ _).alloc (Nat.le_refl _) _)).mono ?_
      rintro e w1 ⟨rfl, hb1⟩
      have hba := ((Below.refl _ _).alloc (Nat.le_refl _) _).trans (hb1.mono (by simp))
      by_cases h0 : ke = 0
      · subst h0
        have HX : Hid (res = fe) := by
          show res = fe
          rw [HE.out, HF.out]
          unfold rErr4
          simp
        go_wp2_with fail
        refine (K2.out _ hba).mono ?_
        rintro e w2 ⟨rfl, hb2⟩
        go_wp2
        go_ret
        exact ⟨ret_int HX.out.symm, hba.trans (hb2.mono hba.size)⟩
      · have h0' : (ke != 0) = true := by simpa using h0
        have HX : Hid (res = ke) := by
          show res = ke
          rw [HE.out]
          unfold rErr4
          rw [if_neg (by decide), if_neg (by simp), if_pos h0]
        clear h0
        go_wp2
        go_ret
        exact ⟨ret_int HX.out.symm, hba⟩
    · have hnc' : ((n : Int) != cn) = true := by simp; omega
      have HX : Hid (res = 2) := by
        show res = 2
        rw [HE.out]
        unfold rErr4
        rw [if_neg (by decide), if_pos hnc]
      clear hnc
      go_enter Tryz.func32, Tryz.ntmps32
      go_wp2
      go_ret
      exact ⟨ret_int HX.out.symm, (Below.refl _ _).alloc (Nat.le_refl _) _⟩
  · obtain ⟨rfl, rfl, rfl⟩ := H2.out rfl
    clear H1 H2 hsb
    by_cases hnc : n = cn
    · subst hnc
      have hnc' : ((n : Int) != n) = false := by simp
      have hk := HKE.out (by trivial)
      subst hk
      clear HKE
      go_enter Tryz.func32, Tryz.ntmps32
      go_wp2_with fail
      refine (K1.out _ ((Below.refl _ _).alloc (Nat.le_refl _) _)).mono ?_
      rintro e w1 ⟨rfl, hb1⟩
      have hba := ((Below.refl _ _).alloc (Nat.le_refl _) _).trans (hb1.mono (by simp))
      by_cases h0 : ke = 0
      · subst h0
        have HX : Hid (res = fe) := by
          show res = fe
          rw [HE.out, HF.out]
          unfold rErr4
          simp
        go_wp2_with fail
        refine (K2.out _ hba).mono ?_
        rintro e w2 ⟨rfl, hb2⟩
        go_wp2
        go_ret
        exact ⟨ret_int HX.out.symm, hba.trans (hb2.mono hba.size)⟩
      · have h0' : (ke != 0) = true := by simpa using h0
        have HX : Hid (res = ke) := by
          show res = ke
          rw [HE.out]
          unfold rErr4
          rw [if_neg (by decide), if_neg (by simp), if_pos h0]
        clear h0
        go_wp2
        go_ret
        exact ⟨ret_int HX.out.symm, hba⟩
    · have hnc' : ((n : Int) != cn) = true := by simp; omega
      have HX : Hid (res = 2) := by
        show res = 2
        rw [HE.out]
        unfold rErr4
        rw [if_neg (by decide), if_pos hnc]
      clear hnc
      go_enter Tryz.func32, Tryz.ntmps32
      go_wp2
      go_ret
      exact ⟨ret_int HX.out.symm, (Below.refl _ _).alloc (Nat.le_refl _) _⟩
end Go.Proofs.YtcpanmaahhiioaaGreat.pl

/- Pick, and KeyOf. -/
namespace Go.Proofs.YtcpanmaahhiioaaGreat.pl
open Go.ChangeShapes Go.WideShapes Go.ChangeAt Go.RowKit
open vl
set_option linter.unusedVariables false
set_option linter.unusedSimpArgs false
/-- the cells at these places -/
def pickR (r : List Cel) (l : List Int) : List Cel := l.map fun i => r.getD i.toNat default
theorem take_snocI (l : List Int) (k : Nat) (h : k < l.length) : l.take (k + 1) = l.take k ++ [l.getD k 0] := by
  rw [List.take_succ_eq_append_getElem h, getD_get h]
set_option maxRecDepth 10000 in
set_option maxHeartbeats 4000000 in
theorem pick_any (a ad : Option Addr) (ca cp : Nat) (r : List Cel) (l : List Int) (w : World) (hlr : r.length ≤ 9223372036854775807) (hll : l.length ≤ 1000) (ha : vl.rowAt w a r) (hl : intsAt w ad l) (hpl : ∀ x ∈ l, 0 ≤ x ∧ x < (r.length : Int)) :
    Calls Tryz.prog 46 #[.slice a r.length ca, .slice ad l.length cp] w fun e w' => (∃ ad' c', e = .returned (.slice ad' (pickR r l).length c') ∧ ownV w' w.heap.size (.slice ad' (pickR r l).length c') (pickR r l)) ∧ Below w.heap.size w w' := by
  have HA : Hid (vl.rowAt w a r) := ha
  have HL : Hid (intsAt w ad l) := hl
  have HP : Hid (∀ i, i < l.length → 0 ≤ l.getD i 0 ∧ l.getD i 0 < (r.length : Int)) := fun i hi => hpl _ (getD_mem hi)
  obtain ⟨m, hm⟩ : ∃ z, r.length = z := ⟨_, rfl⟩
  obtain ⟨n, hn⟩ : ∃ z, l.length = z := ⟨_, rfl⟩
  have HM : Hid (r.length = m) := hm
  have HN : Hid (l.length = n) := hn
  rw [hm] at hlr HP ⊢
  rw [hn] at hll HP ⊢
  clear hm hn ha hl hpl
  obtain ⟨i0, hi, hz0, hz1, hz2⟩ := info_parts Tryz.infoV
  obtain ⟨w0, hmk, hown0, hgrow0⟩ := run_make_own (P := Tryz.prog) w w.heap.size 43 62 i0 (.agg #[.int .i64 0, .int .i64 0, .string ⟨#[]⟩]) 3 Tryz.underlying43 hi hz0 hz1 .i64 .i64 n (by rw [hz2]; omega) (by unfold maxLen; omega) (Nat.le_refl _)
  have hb0 : Below w.heap.size w w0 := (Below.refl _ _).grown hgrow0 (Nat.le_refl _) (fun b hb => by cases hb)
  have HO0 : Hid (ownV w0 w.heap.size (.slice (some ⟨w.heap.size, 0, none⟩) 0 n) []) := hown0
  clear hi hz0 hz1 hz2 hown0 hgrow0
  have HPK : Hid (∀ k, k < n → pickR r (l.take (k + 1)) = pickR r (l.take k) ++ [r.getD (l.getD k 0).toNat default]) := fun k hk => by
    show pickR r (l.take (k + 1)) = _
    rw [take_snocI l k (by rw [HN.out]; exact hk)]; simp [pickR]
  have HPE : Hid (∀ k, n ≤ k → pickR r (l.take k) = pickR r l) := fun k hk => by
    show pickR r (l.take k) = _
    rw [List.take_of_length_le (by rw [HN.out]; exact hk)]
  have HPL : Hid (∀ k, (pickR r (l.take k)).length ≤ n) := fun k => by
    show (pickR r (l.take k)).length ≤ n
    have : (l.take k).length ≤ l.length := by rw [List.length_take]; omega
    unfold pickR; rw [List.length_map, ← HN.out]; exact this
  obtain ⟨pn, hpn⟩ : ∃ z, (pickR r l).length = z := ⟨_, rfl⟩
  have HPN : Hid ((pickR r l).length = pn) := hpn
  rw [hpn]
  clear hpn
  go_enter Tryz.func46, Tryz.ntmps46
  go_wp2
  go_loopw [5, 7, 13] (fun v _ i wr => ∃ k : Nat, k ≤ n ∧ i = .int .i64 k ∧ ownV wr w.heap.size v (pickR r (l.take k)) ∧ Below w.heap.size w wr) (fun _ _ i _ => n - (intOf i).toNat)
  case atStart => exact ⟨0, Nat.zero_le _, rfl, HO0.out, hb0⟩
  case round =>
    obtain ⟨k, hk, rfl, hov, hnx⟩ := hrel
    have HO : Hid (ownV wr w.heap.size u5 (pickR r (l.take k))) := hov
    have hsz := hnx.size
    clear hov hmk
    by_cases hlt : k < n
    · obtain ⟨b, o, e, xk⟩ := HL.out k (by rw [HN.out]; exact hlt)
      subst e
      have hpk := HP.out k hlt
      have HPKk := HPK.out k hlt
      obtain ⟨z, hz⟩ : ∃ z, l.getD k 0 = z := ⟨_, rfl⟩
      rw [hz] at xk hpk HPKk
      obtain ⟨zn, rfl⟩ := Int.eq_ofNat_of_zero_le hpk.1
      rw [Int.toNat_natCast] at HPKk
      obtain ⟨b1, o1, e1, x1, x2, x3⟩ := HA.out zn (by rw [HM.out]; omega)
      subst e1
      have qk := cell_later hnx xk
      have q1 := cell_later hnx x1
      have q2 := cell_later hnx x2
      have q3 := cell_later hnx x3
      obtain ⟨⟨kv, nv, sv⟩, hcv⟩ : ∃ z, r.getD zn default = z := ⟨_, rfl⟩
      rw [hcv] at q1 q2 q3 HPKk
      dsimp only at q1 q2 q3
      have HPK2 : Hid (pickR r (l.take (k + 1)) = pickR r (l.take k) ++ [⟨kv, nv, sv⟩]) := HPKk
      have i1 : (0 : Int) ≤ (k : Int) := by omega
      have i2 : (k : Int) < (n : Int) := by omega
      have i3 : (0 : Int) ≤ (zn : Int) := by omega
      have i4 : (zn : Int) < (m : Int) := by omega
      have hpl := HPL.out k
      obtain ⟨pr, hpr⟩ : ∃ z, pickR r (l.take k) = z := ⟨_, rfl⟩
      rw [hpr] at HO HPK2 hpl
      clear xk x1 x2 x3 hz hcv HPKk hpk hpr
      go_wp2_with (at_builtin; refine append_cell rfl (.tmp 17) (.tmp 22) rfl w.heap.size u5 pr rfl wr HO.out ⟨kv, nv, sv⟩ wr.heap.size rfl rfl (by omega) hsz ?_; intro v2 w3 hown3 hgrow3)
      obtain ⟨ad2, c2, hv, _⟩ := own_form hown3
      have hbn := below_appendV hnx hsz HO.out hgrow3
      subst hv
      go_roundw
      case rel => exact ⟨k + 1, by omega, by go_num, by rw [HPK2.out]; exact hown3, hbn⟩
      case measure => simp [intOf]; omega
    · have HPEk := HPE.out k (by omega)
      obtain ⟨ad2, c2, hv, _⟩ := own_form HO.out
      rw [HPEk] at HO hv
      rw [HPN.out] at hv
      subst hv
      clear HPEk HPE HPK HPL
      go_wp2
      go_ret
      exact ⟨⟨_, _, rfl, HO.out⟩, hnx⟩

/-- has one of these cells nothing? -/
def nullB (r : List Cel) : Bool := r.any fun c => c.k == 0
theorem nullB_yes {r : List Cel} {i : Nat} (hi : i < r.length) (h : (r.getD i default).k = 0) : nullB r = true := by
  unfold nullB
  rw [List.any_eq_true]
  exact ⟨_, getD_mem hi, by simpa using h⟩
theorem nullB_no {r : List Cel} (h : ∀ i, i < r.length → (r.getD i default).k ≠ 0) : nullB r = false := by
  unfold nullB
  rw [List.any_eq_false]
  intro c hc
  have := (all_getD (d := default) (Q := fun c : Cel => c.k ≠ 0)).1 h c hc
  simpa using this
/-- D3: a row's key cells -/
def keyRow (p : Pln) (side : Int) (r : List Cel) : List Cel := pickR r (keysOf p side)
def hasB (p : Pln) (side : Int) (r : List Cel) : Bool := decide (rowErr p side r = 0) && !nullB (keyRow p side r)
def keyOfS (p : Pln) (side : Int) (r : List Cel) : ByteArray := ⟨(if hasB p side r = true then encR (keyRow p side r) else []).toArray⟩
theorem rowErr_ok {p : Pln} {side : Int} {r : List Cel} (h : rowErr p side r = 0) : planErr p = 0 ∧ sideB side = true ∧ r.length = (colsOf p side).length ∧ errR r = 0 ∧ typedB r (colsOf p side) = true := by
  unfold rowErr at h
  by_cases h0 : planErr p = 0
  · rw [if_pos h0] at h
    unfold rErr at h
    cases h1 : sideB side with
    | false => rw [h1] at h; cases h
    | true =>
      rw [h1, if_neg (by decide)] at h
      by_cases h2 : r.length = (colsOf p side).length
      · rw [if_neg (by simp [h2])] at h
        by_cases h3 : errR r = 0
        · rw [if_neg (by simp [h3])] at h
          cases h4 : typedB r (colsOf p side) with
          | false => rw [h4] at h; cases h
          | true => exact ⟨h0, rfl, h2, h3, rfl⟩
        · rw [if_pos h3] at h; exact absurd h h3
      · rw [if_pos h2] at h; cases h
  · rw [if_neg h0] at h; exact absurd h h0
theorem keys_in {p : Pln} {side : Int} (h : planErr p = 0) : (∀ x ∈ keysOf p side, 0 ≤ x ∧ x < ((colsOf p side).length : Int)) ∧ (keysOf p side).length ≤ 4 := by
  obtain ⟨_, _, hm, _, hf⟩ := planErr_ok h
  have hl := many_len hm
  unfold keysOf colsOf
  split
  · exact ⟨hf.2.1.2.2.1.1, by omega⟩
  · exact ⟨hf.2.1.2.1.1, by omega⟩
theorem pick_ok {r : List Cel} {l : List Int} (hl : l.length ≤ 8) (hp : ∀ x ∈ l, 0 ≤ x ∧ x < (r.length : Int)) (he : errR r = 0) (hw : wfRow r) : rowOk (pickR r l) := by
  refine ⟨by unfold pickR; rw [List.length_map]; exact hl, fun c hc => ?_⟩
  obtain ⟨i, hi, rfl⟩ := List.mem_map.1 hc
  have := hp i hi
  have hm : r.getD i.toNat default ∈ r := getD_mem (by omega)
  exact ⟨all_ok he _ hm, hw _ hm⟩
theorem ret_three {s t : ByteArray} {a b : Bool} {x y : Int} (h1 : s = t) (h2 : a = b) (h3 : x = y) : Ending.returned (.tuple #[.string s, .bool a, .int .i64 x]) = .returned (.tuple #[.string t, .bool b, .int .i64 y]) := by rw [h1, h2, h3]
set_option maxRecDepth 10000 in
set_option maxHeartbeats 4000000 in
theorem keyOf_any (p : Pln) (x : PA) (side : Int) (ar : Option Addr) (cr : Nat) (r : List Cel) (w : World) (hw : wfPlan p) (hp : planAt w p x) (hr : vl.rowAt w ar r) (hwr : wfRow r) (hlr : r.length ≤ 9223372036854775807) :
    Calls Tryz.prog 75 #[planV p x, .int .i64 side, .slice ar r.length cr] w fun e w' => e = .returned (.tuple #[.string (keyOfS p side r), .bool (hasB p side r), .int .i64 (rowErr p side r)]) ∧ Below w.heap.size w w' := by
  have K1 : Hid (∀ w1, Below w.heap.size w w1 → Calls Tryz.prog 110 #[planV p x, .int .i64 side, .slice ar r.length cr] w1 fun e w' => e = .returned (.int .i64 (rowErr p side r)) ∧ Below w1.heap.size w1 w') := fun w1 hb => row_any p x side ar cr r w1 hw (planAt_below hp hb) (rowAt_below hr hb) hwr hlr
  have K2 : Hid (∀ w1, Calls Tryz.prog 111 #[planV p x, .int .i64 side] w1 fun e w' => e = .returned (.slice (kA x side) (keysOf p side).length (kC x side)) ∧ Below w1.heap.size w1 w') := fun w1 => keysOf_fn p x side w1
  have K3 : Hid (∀ w1, rowErr p side r = 0 → Below w.heap.size w w1 → Calls Tryz.prog 46 #[.slice ar r.length cr, .slice (kA x side) (keysOf p side).length (kC x side)] w1 fun e w' => (∃ ad' c', e = .returned (.slice ad' (keyRow p side r).length c') ∧ ownV w' w1.heap.size (.slice ad' (keyRow p side r).length c') (keyRow p side r)) ∧ Below w1.heap.size w1 w') := fun w1 h0 hb => by
    have h := rowErr_ok h0
    have hk := keys_in (side := side) h.1
    exact pick_any ar (kA x side) cr (kC x side) r (keysOf p side) w1 hlr (by omega) (rowAt_below hr hb) (intsAt_below (keysAt hp side) hb) (by rw [h.2.2.1]; exact hk.1)
  have HOK : Hid (rowErr p side r = 0 → rowOk (keyRow p side r)) := fun h0 => by
    have h := rowErr_ok h0
    have hk := keys_in (side := side) h.1
    exact pick_ok (by omega) (by rw [h.2.2.1]; exact hk.1) h.2.2.2.1 hwr
  have HHAS : Hid (hasB p side r = (decide (rowErr p side r = 0) && !nullB (keyRow p side r))) := rfl
  have HKS : Hid (keyOfS p side r = ⟨(if hasB p side r = true then encR (keyRow p side r) else []).toArray⟩) := rfl
  obtain ⟨re, hre⟩ : ∃ z, rowErr p side r = z := ⟨_, rfl⟩
  obtain ⟨kr, hkr⟩ : ∃ z, keyRow p side r = z := ⟨_, rfl⟩
  obtain ⟨hb, hhb⟩ : ∃ z, hasB p side r = z := ⟨_, rfl⟩
  obtain ⟨ks, hks⟩ : ∃ z, keyOfS p side r = z := ⟨_, rfl⟩
  obtain ⟨ca, hca⟩ : ∃ z, cA x side = z := ⟨_, rfl⟩
  obtain ⟨cc, hcc⟩ : ∃ z, cC x side = z := ⟨_, rfl⟩
  obtain ⟨ka, hka⟩ : ∃ z, kA x side = z := ⟨_, rfl⟩
  obtain ⟨kc, hkc⟩ : ∃ z, kC x side = z := ⟨_, rfl⟩
  obtain ⟨cn, hcn⟩ : ∃ z, (colsOf p side).length = z := ⟨_, rfl⟩
  obtain ⟨kn, hkn⟩ : ∃ z, (keysOf p side).length = z := ⟨_, rfl⟩
  obtain ⟨n, hn⟩ : ∃ z, r.length = z := ⟨_, rfl⟩
  rw [hre, hn] at K1
  rw [hka, hkc, hkn] at K2
  rw [hre, hka, hkc, hkn, hkr, hn] at K3
  rw [hre, hkr] at HOK
  rw [hre, hkr, hhb] at HHAS
  rw [hhb, hkr, hks] at HKS
  rw [hks, hhb, hre, hn]
  clear hre hkr hhb hks hca hcc hka hkc hcn hkn hn hp hw hr hwr hlr
  obtain ⟨q, hq⟩ : ∃ z, kr.length = z := ⟨_, rfl⟩
  have HQ : Hid (kr.length = q) := hq
  rw [hq] at K3
  clear hq
  obtain ⟨kind, mode, low, high, size, limit, left, right, lkeys, rkeys, grouped, group, aggs⟩ := p
  obtain ⟨l, lc, rr, rc, lk, lkc, rk, rkc, g, gc, a, ac⟩ := x
  unfold planV at K1 K2 ⊢
  dsimp only at K1 K2 ⊢
  obtain ⟨n6, h6⟩ : ∃ n, left.length = n := ⟨_, rfl⟩
  obtain ⟨n7, h7⟩ : ∃ n, right.length = n := ⟨_, rfl⟩
  obtain ⟨n8, h8⟩ : ∃ n, lkeys.length = n := ⟨_, rfl⟩
  obtain ⟨n9, h9⟩ : ∃ n, rkeys.length = n := ⟨_, rfl⟩
  obtain ⟨n11, h11⟩ : ∃ n, group.length = n := ⟨_, rfl⟩
  obtain ⟨n12, h12⟩ : ∃ n, aggs.length = n := ⟨_, rfl⟩
  rw [h6, h7, h8, h9, h11, h12] at K1 K2
  rw [h6, h7, h8, h9, h11, h12]
  clear h6 h7 h8 h9 h11 h12
  go_enter Tryz.func75, Tryz.ntmps75
  go_wp2_with fail
  refine (K1.out _ ((Below.refl _ _).alloc (Nat.le_refl _) _)).mono ?_
  rintro e w1 ⟨rfl, hb1⟩
  have hba := ((Below.refl _ _).alloc (Nat.le_refl _) _).trans (hb1.mono (by simp))
  obtain ⟨hc1, hf1⟩ := bcell hb1
  by_cases h0 : re = 0
  · subst h0
    have HKO : Hid (rowOk kr) := HOK.out rfl
    have HH : Hid (hb = !nullB kr) := HHAS.out
    clear HOK HHAS
    go_wp2_with fail
    refine (K2.out _).mono ?_
    rintro e w2 ⟨rfl, hb2⟩
    have hbb := hba.trans (hb2.mono hba.size)
    go_wp2_with fail
    refine (K3.out _ (by trivial) hbb).mono ?_
    rintro e w3 ⟨⟨ad', c', rfl, hov⟩, hb3⟩
    have hbc := hbb.trans (hb3.mono hbb.size)
    have HOV : Hid (vl.rowAt w3 ad' kr) := by
      have := ownV_row (r := kr) (cap := c') (ad := ad') (base := w2.heap.size) (w := w3) (by rw [HQ.out]; exact hov)
      exact this
    clear hc1 hf1 K1 K2 K3 hb1 hb2 hb3 hov hba hbb
    have hq8 : q ≤ 8 := by have := HKO.out.1; rw [HQ.out] at this; exact this
    go_wp2
    go_loopw [12, 29] (fun _ i wr => ∃ j : Nat, j ≤ q ∧ i = .int .i64 j ∧ Below w3.heap.size w3 wr ∧ ∀ i, i < j → (kr.getD i default).k ≠ 0) (fun _ i _ => q - (intOf i).toNat)
    case atStart => exact ⟨0, Nat.zero_le _, rfl, Below.refl _ _, fun i hi => absurd hi (Nat.not_lt_zero i)⟩
    case round =>
      obtain ⟨j, hj, rfl, hnx, hall⟩ := hrel
      have HAL : Hid (∀ i, i < j → (kr.getD i default).k ≠ 0) := hall
      have hsz := hnx.size
      have hbr := hbc.trans (hnx.mono hbc.size)
      clear hall
      by_cases hlt : j < q
      · obtain ⟨b1, o1, e1, x1, x2, x3⟩ := HOV.out j (by rw [HQ.out]; exact hlt)
        subst e1
        have q1 := cell_later hnx x1
        have q2 := cell_later hnx x2
        have q3 := cell_later hnx x3
        have HNY : Hid ((kr.getD j default).k = 0 → nullB kr = true) := fun h => nullB_yes (by rw [HQ.out]; exact hlt) h
        have HST : Hid ((kr.getD j default).k ≠ 0 → ∀ i, i < j + 1 → (kr.getD i default).k ≠ 0) := fun h i hi => by
          rcases Nat.lt_succ_iff_lt_or_eq.1 hi with h1 | h1
          · exact HAL.out i h1
          · rw [h1]; exact h
        obtain ⟨⟨kv, nv, sv⟩, hcv⟩ : ∃ z, kr.getD j default = z := ⟨_, rfl⟩
        rw [hcv] at q1 q2 q3 HNY HST
        dsimp only at q1 q2 q3 HNY HST
        have i1 : (0 : Int) ≤ (j : Int) := by omega
        have i2 : (j : Int) < (q : Int) := by omega
        clear hcv x1 x2 x3
        by_cases hk : kv = 0
        · subst hk
          have HX : Hid (hb = false) := by show hb = false; rw [HH.out, HNY.out rfl]; rfl
          have HY : Hid (ks = ⟨#[]⟩) := by show ks = _; rw [HKS.out, HX.out]; rfl
          go_wp2
          go_ret3
          exact ⟨ret_three HY.out.symm HX.out.symm rfl, hbr.alloc hbr.size _⟩
        · have hk' : (kv == 0) = false := by simpa using hk
          have HS2 := HST.out hk
          have HS3 : Hid (∀ i, i < j + 1 → (kr.getD i default).k ≠ 0) := HS2
          clear hk HS2 HST HNY
          go_wp2
          go_roundw
          case rel => exact ⟨j + 1, by omega, by go_num, hnx.alloc hsz _, HS3.out⟩
          case measure => simp [intOf]; omega
      · have HNN : Hid (nullB kr = false) := nullB_no (fun i hi => HAL.out i (by rw [HQ.out] at hi; omega))
        have HX : Hid (hb = true) := by show hb = true; rw [HH.out, HNN.out]; rfl
        have HY : Hid (ks = ⟨(encR kr).toArray⟩) := by show ks = _; rw [HKS.out, HX.out]; rfl
        have KK : Hid (Calls Tryz.prog 45 #[.slice ad' q c'] wr fun e w' => e = .returned (.tuple #[.string (keyS kr), .int .i64 0]) ∧ Below wr.heap.size wr w') := by
          have := vl.key_ok ad' c' kr wr (rowAt_below HOV.out hnx) HKO.out
          rwa [HQ.out] at this
        have HKY : Hid (keyS kr = ks) := by
          show keyS kr = ks
          rw [HY.out]
          apply str_eq
          rw [keyS_ok HKO.out]
        go_wp2_with fail
        refine KK.out.mono ?_
        rintro e w4 ⟨rfl, hb4⟩
        go_wp2
        go_ret3
        exact ⟨ret_three HKY.out HX.out.symm rfl, hbr.trans (hb4.mono hbr.size)⟩
  · have h0' : (re != 0) = true := by simpa using h0
    have HX : Hid (hb = false) := by show hb = false; rw [HHAS.out, decide_eq_false h0]; rfl
    have HY : Hid (ks = ⟨#[]⟩) := by show ks = _; rw [HKS.out, HX.out]; rfl
    clear h0
    go_wp2
    go_ret3
    exact ⟨ret_three HY.out.symm HX.out.symm rfl, hba⟩
end Go.Proofs.YtcpanmaahhiioaaGreat.pl

/- The document's KeyFor. -/
namespace Go.Proofs.YtcpanmaahhiioaaGreat.pl
open Go.ChangeShapes Go.WideShapes Go.ChangeAt Go.RowKit
open vl
set_option linter.unusedVariables false
set_option linter.unusedSimpArgs false
theorem ret_sb {s t : ByteArray} {a b : Bool} (h1 : s = t) (h2 : a = b) : Ending.returned (.tuple #[.string s, .bool a]) = .returned (.tuple #[.string t, .bool b]) := by rw [h1, h2]
theorem pickR_at (r : List Cel) (l : List Int) (k : Nat) (h : k < l.length) : (pickR r l).getD k default = r.getD (l.getD k 0).toNat default := by
  unfold pickR
  simp [List.getD_eq_getElem?_getD, h]
set_option maxRecDepth 10000 in
set_option maxHeartbeats 4000000 in
theorem keyFor_any (p : Pln) (x : PA) (side : Int) (ar : Option Addr) (cr : Nat) (r : List Cel) (w : World) (hw : wfPlan p) (hp : planAt w p x) (h0 : rowErr p side r = 0) (hr : vl.rowAt w ar r) (hwr : wfRow r) (hlr : r.length ≤ 9223372036854775807) :
    Calls Tryz.prog 81 #[planV p x, .int .i64 side, .slice ar r.length cr] w fun e w' => e = .returned (.tuple #[.string (keyOfS p side r), .bool (hasB p side r)]) ∧ Below w.heap.size w w' := by
  have h := rowErr_ok h0
  have hk := keys_in (side := side) h.1
  have hkl := hk.2
  have HKO : Hid (rowOk (keyRow p side r)) := pick_ok (by omega) (by rw [h.2.2.1]; exact hk.1) h.2.2.2.1 hwr
  have HH : Hid (hasB p side r = !nullB (keyRow p side r)) := by show (decide (rowErr p side r = 0) && !nullB (keyRow p side r)) = _; rw [decide_eq_true h0]; rfl
  have HKS : Hid (keyOfS p side r = ⟨(if hasB p side r = true then encR (keyRow p side r) else []).toArray⟩) := rfl
  have HA : Hid (vl.rowAt w ar r) := hr
  have HL : Hid (intsAt w (kA x side) (keysOf p side)) := keysAt hp side
  have HP : Hid (∀ i, i < (keysOf p side).length → 0 ≤ (keysOf p side).getD i 0 ∧ (keysOf p side).getD i 0 < (r.length : Int)) := fun i hi => by rw [h.2.2.1]; exact hk.1 _ (getD_mem hi)
  have HPK : Hid (∀ k, k < (keysOf p side).length → pickR r ((keysOf p side).take (k + 1)) = pickR r ((keysOf p side).take k) ++ [r.getD ((keysOf p side).getD k 0).toNat default]) := fun k hk => by
    show pickR r ((keysOf p side).take (k + 1)) = _
    rw [take_snocI _ k hk]; simp [pickR]
  have HPE : Hid (∀ k, (keysOf p side).length ≤ k → pickR r ((keysOf p side).take k) = keyRow p side r) := fun k hk => by
    show pickR r ((keysOf p side).take k) = _
    rw [List.take_of_length_le hk]; rfl
  have HPL : Hid (∀ k, (pickR r ((keysOf p side).take k)).length ≤ (keysOf p side).length) := fun k => by
    show (pickR r ((keysOf p side).take k)).length ≤ _
    unfold pickR; rw [List.length_map, List.length_take]; omega
  have HKA : Hid (∀ k, k < (keysOf p side).length → (keyRow p side r).getD k default = r.getD ((keysOf p side).getD k 0).toNat default) := fun k hk => pickR_at r _ k hk
  have HQ : Hid ((keyRow p side r).length = (keysOf p side).length) := by show (keyRow p side r).length = _; unfold keyRow pickR; rw [List.length_map]
  have HNY : Hid (∀ j, j < (keysOf p side).length → ((keyRow p side r).getD j default).k = 0 → nullB (keyRow p side r) = true) := fun j hj h => nullB_yes (by rw [HQ.out]; exact hj) h
  have HNO : Hid ((∀ i, i < (keysOf p side).length → ((keyRow p side r).getD i default).k ≠ 0) → nullB (keyRow p side r) = false) := fun h => nullB_no (fun i hi => h i (by rw [HQ.out] at hi; exact hi))
  have H2 : Hid (side = 2 → kA x side = x.rk ∧ kC x side = x.rkc ∧ (keysOf p side).length = p.rkeys.length) := fun h => by show kA x side = x.rk ∧ kC x side = x.rkc ∧ _; unfold kA kC keysOf; simp only [if_pos h]; exact ⟨trivial, trivial, trivial⟩
  have H1 : Hid (¬ side = 2 → kA x side = x.lk ∧ kC x side = x.lkc ∧ (keysOf p side).length = p.lkeys.length) := fun h => by show kA x side = x.lk ∧ kC x side = x.lkc ∧ _; unfold kA kC keysOf; simp only [if_neg h]; exact ⟨trivial, trivial, trivial⟩
  obtain ⟨kr, hkr⟩ : ∃ z, keyRow p side r = z := ⟨_, rfl⟩
  obtain ⟨hb, hhb⟩ : ∃ z, hasB p side r = z := ⟨_, rfl⟩
  obtain ⟨ks, hks⟩ : ∃ z, keyOfS p side r = z := ⟨_, rfl⟩
  obtain ⟨ka, hka⟩ : ∃ z, kA x side = z := ⟨_, rfl⟩
  obtain ⟨kc, hkc⟩ : ∃ z, kC x side = z := ⟨_, rfl⟩
  obtain ⟨ky, hky⟩ : ∃ z, keysOf p side = z := ⟨_, rfl⟩
  rw [hkr] at HKO HH HKS HPE HKA HQ HNY HNO
  rw [hhb] at HH HKS ⊢
  rw [hks] at HKS ⊢
  rw [hka] at HL H1 H2
  rw [hkc] at H1 H2
  rw [hky] at HL HP HPK HPE HPL HKA HQ HNY HNO H1 H2 hkl
  obtain ⟨kn, hkn⟩ : ∃ z, ky.length = z := ⟨_, rfl⟩
  have HKN : Hid (ky.length = kn) := hkn
  rw [hkn] at HP HPK HPE HPL HKA HQ HNY HNO H1 H2 hkl
  obtain ⟨m, hm⟩ : ∃ z, r.length = z := ⟨_, rfl⟩
  have HM : Hid (r.length = m) := hm
  rw [hm] at HP hlr ⊢
  clear hkr hhb hks hka hkc hky hkn hm h hk h0 hp hw hr hwr
  obtain ⟨kind, mode, low, high, size, limit, left, right, lkeys, rkeys, grouped, group, aggs⟩ := p
  obtain ⟨l, lc, rr, rc, lk, lkc, rk, rkc, g, gc, a, ac⟩ := x
  unfold planV
  dsimp only at H1 H2 ⊢
  obtain ⟨n8, h8⟩ : ∃ n, lkeys.length = n := ⟨_, rfl⟩
  obtain ⟨n9, h9⟩ : ∃ n, rkeys.length = n := ⟨_, rfl⟩
  rw [h8] at H1 ⊢
  rw [h9] at H2 ⊢
  clear h8 h9
  by_cases s2 : side = 2
  · subst s2
    obtain ⟨rfl, rfl, rfl⟩ := H2.out rfl
    clear H1 H2
    go_enter Tryz.func81, Tryz.ntmps81
    go_wp2
    go_loopw [9, 10] (fun v i wr => ∃ k : Nat, k ≤ kn ∧ i = .int .i64 k ∧ ownV wr w.heap.size v (pickR r (ky.take k)) ∧ Below w.heap.size w wr ∧ ∀ i, i < k → (kr.getD i default).k ≠ 0) (fun _ i _ => kn - (intOf i).toNat)
    case atStart => exact ⟨0, Nat.zero_le _, rfl, World.ownsRow_nil _ _ _ _, (Below.refl _ _).alloc (Nat.le_refl _) _, fun i hi => absurd hi (Nat.not_lt_zero i)⟩
    case round =>
      obtain ⟨k, hk, rfl, hov, hnx, hall⟩ := hrel
      have HO : Hid (ownV wr w.heap.size u9 (pickR r (ky.take k))) := hov
      have HAL : Hid (∀ i, i < k → (kr.getD i default).k ≠ 0) := hall
      have hsz := hnx.size
      clear hov hall
      by_cases hlt : k < kn
      · obtain ⟨b, o, e, xk⟩ := HL.out k (by rw [HKN.out]; exact hlt)
        subst e
        have hpk := HP.out k hlt
        have HPKk := HPK.out k hlt
        have HAT := HKA.out k hlt
        obtain ⟨z, hz⟩ : ∃ z, ky.getD k 0 = z := ⟨_, rfl⟩
        rw [hz] at xk hpk HPKk HAT
        obtain ⟨zn, rfl⟩ := Int.eq_ofNat_of_zero_le hpk.1
        rw [Int.toNat_natCast] at HPKk HAT
        obtain ⟨b1, o1, e1, x1, x2, x3⟩ := HA.out zn (by rw [HM.out]; omega)
        subst e1
        have qk := cell_later hnx xk
        have q1 := cell_later hnx x1
        have q2 := cell_later hnx x2
        have q3 := cell_later hnx x3
        obtain ⟨⟨kv, nv, sv⟩, hcv⟩ : ∃ z, r.getD zn default = z := ⟨_, rfl⟩
        rw [hcv] at q1 q2 q3 HPKk HAT
        dsimp only at q1 q2 q3
        have HPK2 : Hid (pickR r (ky.take (k + 1)) = pickR r (ky.take k) ++ [⟨kv, nv, sv⟩]) := HPKk
        have HA2 : Hid (kr.getD k default = ⟨kv, nv, sv⟩) := HAT
        have i1 : (0 : Int) ≤ (k : Int) := by omega
        have i2 : (k : Int) < (kn : Int) := by omega
        have i3 : (0 : Int) ≤ (zn : Int) := by omega
        have i4 : (zn : Int) < (m : Int) := by omega
        have hpl := HPL.out k
        obtain ⟨pr, hpr⟩ : ∃ z, pickR r (ky.take k) = z := ⟨_, rfl⟩
        rw [hpr] at HO HPK2 hpl
        clear xk x1 x2 x3 hz hcv HPKk HAT hpk hpr
        by_cases hk0 : kv = 0
        · subst hk0
          have HX : Hid (hb = false) := by show hb = false; rw [HH.out, HNY.out k hlt (by rw [HA2.out])]; rfl
          have HY : Hid (ks = ⟨#[]⟩) := by show ks = _; rw [HKS.out, HX.out]; rfl
          go_wp2
          go_ret2
          exact ⟨ret_sb HY.out.symm HX.out.symm, hnx⟩
        · have hk' : (kv == 0) = false := by simpa using hk0
          have HS3 : Hid (∀ i, i < k + 1 → (kr.getD i default).k ≠ 0) := fun i hi => by
            rcases Nat.lt_succ_iff_lt_or_eq.1 hi with h1 | h1
            · exact HAL.out i h1
            · rw [h1, HA2.out]; exact hk0
          clear hk0
          go_wp2_with (at_builtin; refine append_cell rfl (.tmp 32) (.tmp 40) rfl w.heap.size u9 pr rfl wr HO.out ⟨kv, nv, sv⟩ wr.heap.size rfl rfl (by omega) hsz ?_; intro v2 w3 hown3 hgrow3)
          obtain ⟨ad2, c2, hv, _⟩ := own_form hown3
          have hbn := below_appendV hnx hsz HO.out hgrow3
          subst hv
          go_roundw
          case rel => exact ⟨k + 1, by omega, by go_num, by rw [HPK2.out]; exact hown3, hbn, HS3.out⟩
          case measure => simp [intOf]; omega
      · have HPEk := HPE.out k (by omega)
        have HNN : Hid (nullB kr = false) := HNO.out (fun i hi => HAL.out i (by omega))
        have HX : Hid (hb = true) := by show hb = true; rw [HH.out, HNN.out]; rfl
        have HY : Hid (ks = ⟨(encR kr).toArray⟩) := by show ks = _; rw [HKS.out, HX.out]; rfl
        obtain ⟨ad2, c2, hv, _⟩ := own_form HO.out
        rw [HPEk] at HO hv
        rw [HQ.out] at hv
        subst hv
        have HRW : Hid (vl.rowAt wr ad2 kr) := ownV_row (cap := c2) (base := w.heap.size) (by rw [HQ.out]; exact HO.out)
        have KK : Hid (Calls Tryz.prog 116 #[.slice ad2 kn c2] wr fun e w' => e = .returned (.string ⟨(encR kr).toArray⟩) ∧ Below wr.heap.size wr w') := by
          have := vl.rkey_any ad2 c2 kr wr HRW.out HKO.out
          rwa [HQ.out] at this
        obtain ⟨kb, hkb⟩ : ∃ z, (⟨(encR kr).toArray⟩ : ByteArray) = z := ⟨_, rfl⟩
        rw [hkb] at KK HY
        clear HPEk HPE HPK HPL hkb
        go_wp2_with fail
        refine KK.out.mono ?_
        rintro e w4 ⟨rfl, hb4⟩
        go_wp2
        go_ret2
        exact ⟨ret_sb HY.out.symm HX.out.symm, hnx.trans (hb4.mono hsz)⟩
  · obtain ⟨rfl, rfl, rfl⟩ := H1.out s2
    have s2' : (side == 2) = false := by simpa using s2
    clear H1 H2 s2
    go_enter Tryz.func81, Tryz.ntmps81
    go_wp2
    go_loopw [9, 10] (fun v i wr => ∃ k : Nat, k ≤ kn ∧ i = .int .i64 k ∧ ownV wr w.heap.size v (pickR r (ky.take k)) ∧ Below w.heap.size w wr ∧ ∀ i, i < k → (kr.getD i default).k ≠ 0) (fun _ i _ => kn - (intOf i).toNat)
    case atStart => exact ⟨0, Nat.zero_le _, rfl, World.ownsRow_nil _ _ _ _, (Below.refl _ _).alloc (Nat.le_refl _) _, fun i hi => absurd hi (Nat.not_lt_zero i)⟩
    case round =>
      obtain ⟨k, hk, rfl, hov, hnx, hall⟩ := hrel
      have HO : Hid (ownV wr w.heap.size u9 (pickR r (ky.take k))) := hov
      have HAL : Hid (∀ i, i < k → (kr.getD i default).k ≠ 0) := hall
      have hsz := hnx.size
      clear hov hall
      by_cases hlt : k < kn
      · obtain ⟨b, o, e, xk⟩ := HL.out k (by rw [HKN.out]; exact hlt)
        subst e
        have hpk := HP.out k hlt
        have HPKk := HPK.out k hlt
        have HAT := HKA.out k hlt
        obtain ⟨z, hz⟩ : ∃ z, ky.getD k 0 = z := ⟨_, rfl⟩
        rw [hz] at xk hpk HPKk HAT
        obtain ⟨zn, rfl⟩ := Int.eq_ofNat_of_zero_le hpk.1
        rw [Int.toNat_natCast] at HPKk HAT
        obtain ⟨b1, o1, e1, x1, x2, x3⟩ := HA.out zn (by rw [HM.out]; omega)
        subst e1
        have qk := cell_later hnx xk
        have q1 := cell_later hnx x1
        have q2 := cell_later hnx x2
        have q3 := cell_later hnx x3
        obtain ⟨⟨kv, nv, sv⟩, hcv⟩ : ∃ z, r.getD zn default = z := ⟨_, rfl⟩
        rw [hcv] at q1 q2 q3 HPKk HAT
        dsimp only at q1 q2 q3
        have HPK2 : Hid (pickR r (ky.take (k + 1)) = pickR r (ky.take k) ++ [⟨kv, nv, sv⟩]) := HPKk
        have HA2 : Hid (kr.getD k default = ⟨kv, nv, sv⟩) := HAT
        have i1 : (0 : Int) ≤ (k : Int) := by omega
        have i2 : (k : Int) < (kn : Int) := by omega
        have i3 : (0 : Int) ≤ (zn : Int) := by omega
        have i4 : (zn : Int) < (m : Int) := by omega
        have hpl := HPL.out k
        obtain ⟨pr, hpr⟩ : ∃ z, pickR r (ky.take k) = z := ⟨_, rfl⟩
        rw [hpr] at HO HPK2 hpl
        clear xk x1 x2 x3 hz hcv HPKk HAT hpk hpr
        by_cases hk0 : kv = 0
        · subst hk0
          have HX : Hid (hb = false) := by show hb = false; rw [HH.out, HNY.out k hlt (by rw [HA2.out])]; rfl
          have HY : Hid (ks = ⟨#[]⟩) := by show ks = _; rw [HKS.out, HX.out]; rfl
          go_wp2
          go_ret2
          exact ⟨ret_sb HY.out.symm HX.out.symm, hnx⟩
        · have hk' : (kv == 0) = false := by simpa using hk0
          have HS3 : Hid (∀ i, i < k + 1 → (kr.getD i default).k ≠ 0) := fun i hi => by
            rcases Nat.lt_succ_iff_lt_or_eq.1 hi with h1 | h1
            · exact HAL.out i h1
            · rw [h1, HA2.out]; exact hk0
          clear hk0
          go_wp2_with (at_builtin; refine append_cell rfl (.tmp 32) (.tmp 40) rfl w.heap.size u9 pr rfl wr HO.out ⟨kv, nv, sv⟩ wr.heap.size rfl rfl (by omega) hsz ?_; intro v2 w3 hown3 hgrow3)
          obtain ⟨ad2, c2, hv, _⟩ := own_form hown3
          have hbn := below_appendV hnx hsz HO.out hgrow3
          subst hv
          go_roundw
          case rel => exact ⟨k + 1, by omega, by go_num, by rw [HPK2.out]; exact hown3, hbn, HS3.out⟩
          case measure => simp [intOf]; omega
      · have HPEk := HPE.out k (by omega)
        have HNN : Hid (nullB kr = false) := HNO.out (fun i hi => HAL.out i (by omega))
        have HX : Hid (hb = true) := by show hb = true; rw [HH.out, HNN.out]; rfl
        have HY : Hid (ks = ⟨(encR kr).toArray⟩) := by show ks = _; rw [HKS.out, HX.out]; rfl
        obtain ⟨ad2, c2, hv, _⟩ := own_form HO.out
        rw [HPEk] at HO hv
        rw [HQ.out] at hv
        subst hv
        have HRW : Hid (vl.rowAt wr ad2 kr) := ownV_row (cap := c2) (base := w.heap.size) (by rw [HQ.out]; exact HO.out)
        have KK : Hid (Calls Tryz.prog 116 #[.slice ad2 kn c2] wr fun e w' => e = .returned (.string ⟨(encR kr).toArray⟩) ∧ Below wr.heap.size wr w') := by
          have := vl.rkey_any ad2 c2 kr wr HRW.out HKO.out
          rwa [HQ.out] at this
        obtain ⟨kb, hkb⟩ : ∃ z, (⟨(encR kr).toArray⟩ : ByteArray) = z := ⟨_, rfl⟩
        rw [hkb] at KK HY
        clear HPEk HPE HPK HPL hkb
        go_wp2_with fail
        refine KK.out.mono ?_
        rintro e w4 ⟨rfl, hb4⟩
        go_wp2
        go_ret2
        exact ⟨ret_sb HY.out.symm HX.out.symm, hnx.trans (hb4.mono hsz)⟩
end Go.Proofs.YtcpanmaahhiioaaGreat.pl

/- Out, and the document's OutOf; sameInts. -/
namespace Go.Proofs.YtcpanmaahhiioaaGreat.pl
open Go.ChangeShapes Go.WideShapes Go.ChangeAt Go.RowKit
open vl
set_option linter.unusedVariables false
set_option linter.unusedSimpArgs false
/-- 'append(out, n)' -/
theorem append_int {ops : Array Oper} {rest : List Oper} {o : Oper} {a : Act} {Q : Exit → Act → World → Prop} (hgd : o.guard = none) (s x : Operand)
    (ho : o.op = .call { callee := .builtin .append, args := #[s, x], argTypes := #[22, 22] }) (base : Nat) (v : Value) (l : List Int) (hs : a.eval s = v) (w0 : World)
    (hown : ownI w0 base v l) (n : Int) (B : Nat) (hB : w0.heap.size = B) (hx : a.eval x = .slice (some ⟨B, 0, none⟩) 1 1) (hl : l.length ≤ 1000000) (hb : base ≤ w0.heap.size)
    (h : ∀ v' w', ownI w' base v' (l ++ [n]) → (w0.alloc (.cells #[.int .i64 n] 3)).grownBy w' v.ownBlock → wpList Tryz.prog ops Q rest (a.put o.dst v') w') :
    wpList Tryz.prog ops Q (o :: rest) a (w0.alloc (.cells #[.int .i64 n] 3)) := by
  subst hB
  obtain ⟨i0, hi, hz0, hz1, hz2⟩ := info_parts Tryz.info3
  refine wpList_append_own _ hgd s x 22 ho base 3 i0 (.int .i64 0) 1 8 Tryz.underlying22 hi hz0 hz1 hz2 rfl (by decide) v l.length (l.map intV) hs
    (World.ownsRow.alloc hown _) ⟨w0.heap.size, 0, none⟩ 1 1 [.int .i64 n] hx rfl (cell_one_new _ _ _) (by intro u hu; simp at hu; subst hu; rfl) (by unfold maxLen; omega) (by omega) (by simp; omega) ?_
  intro v' w' h1 h2 _
  refine h v' w' ?_ h2
  unfold ownI
  rw [List.length_append, List.map_append]
  exact h1
theorem below_appendI {base : Nat} {w w0 w' : World} {v : Value} {l : List Int} {o : Obj} (hb : Below base w w0) (h0 : base ≤ w0.heap.size) (hown : ownI w0 base v l) (hg : (w0.alloc o).grownBy w' v.ownBlock) : Below base w w' :=
  (hb.alloc h0 o).grown hg (by simp; omega) (fun k hk => (World.ownsRow.lt hown k hk).1)
def figT (c : List Int) (a : Int × Int) : Int := if a.1 = 3 ∨ a.1 = 4 then c.getD a.2.toNat 0 else 2
def outL (p : Pln) : List Int := if p.grouped = true then p.group.map (fun i => (cols p).getD i.toNat 0) ++ p.aggs.map (figT (cols p)) else cols p
theorem takeA (l : List (Int × Int)) (k : Nat) (h : k < l.length) : l.take (k + 1) = l.take k ++ [l.getD k (0, 0)] := by
  rw [List.take_succ_eq_append_getElem h]; simp [List.getD_eq_getElem?_getD, h]
theorem ret_si {v : Value} {a b : Int} (h : a = b) : Ending.returned (.tuple #[v, .int .i64 a]) = .returned (.tuple #[v, .int .i64 b]) := by rw [h]
/-- what Out answers -/
def outRes (p : Pln) (base : Nat) (e : Ending) (w' : World) : Prop :=
  (planErr p ≠ 0 ∧ e = .returned (.tuple #[.slice none 0 0, .int .i64 (planErr p)])) ∨
  (planErr p = 0 ∧ ∃ ad cap, e = .returned (.tuple #[.slice ad (outL p).length cap, .int .i64 0]) ∧ intsAt w' ad (outL p))
end Go.Proofs.YtcpanmaahhiioaaGreat.pl

/- The document's OutOf; sameInts. -/
namespace Go.Proofs.YtcpanmaahhiioaaGreat.pl
open Go.ChangeShapes Go.WideShapes Go.ChangeAt Go.RowKit
open vl
set_option linter.unusedVariables false
set_option linter.unusedSimpArgs false
theorem figT_low {c : List Int} {a : Int × Int} (h : a.1 ≤ 2) : figT c a = 2 := if_neg (by omega)
theorem figT_high {c : List Int} {a : Int × Int} (h : 2 < a.1) (h4 : a.1 ≤ 4) : figT c a = c.getD a.2.toNat 0 := if_pos (by omega)
theorem take_eqI {r1 r2 : List Int} {k : Nat} (h1 : k < r1.length) (h2 : k < r2.length) (h : r1.take k = r2.take k) (hk : r1.getD k 0 = r2.getD k 0) : r1.take (k + 1) = r2.take (k + 1) := by
  rw [take_snocI r1 k h1, take_snocI r2 k h2, h, hk]
end Go.Proofs.YtcpanmaahhiioaaGreat.pl
