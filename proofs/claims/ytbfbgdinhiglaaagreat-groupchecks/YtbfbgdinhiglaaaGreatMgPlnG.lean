/- Several texts in one: PlnRow, PlnRow2, PlnPick, PlnKeyFor. -/
import Derived.Test.YtbfbgdinhiglaaaGreatMgPlnF
import Derived.Test.YtbfbgdinhiglaaaGreatMgValC
/- Columns, keysOf, Typed, Row; the document's fitsTypes and RowError. -/
namespace Go.Proofs.YtbfbgdinhiglaaaGreat.pl
open Go.ChangeShapes Go.WideShapes Go.ChangeAt Go.RowKit
open vl
set_option linter.unusedVariables false
set_option linter.unusedSimpArgs false
def colsOf (p : Pln) (side : Int) : List Int := if side = 2 then p.right else p.left
def keysOf (p : Pln) (side : Int) : List Int := if side = 2 then p.rkeys else p.lkeys
def cA (x : PA) (side : Int) : Option Addr := if side = 2 then x.r else x.l
def cC (x : PA) (side : Int) : Nat := if side = 2 then x.rc else x.lc
def kA (x : PA) (side : Int) : Option Addr := if side = 2 then x.rk else x.lk
def kC (x : PA) (side : Int) : Nat := if side = 2 then x.rkc else x.lkc
theorem colsAt {w : World} {p : Pln} {x : PA} (h : planAt w p x) (side : Int) : intsAt w (cA x side) (colsOf p side) := by
  unfold cA colsOf; split
  · exact h.r
  · exact h.l
theorem keysAt {w : World} {p : Pln} {x : PA} (h : planAt w p x) (side : Int) : intsAt w (kA x side) (keysOf p side) := by
  unfold kA keysOf; split
  · exact h.rk
  · exact h.lk
theorem colsLen {p : Pln} (h : wfPlan p) (side : Int) : (colsOf p side).length ≤ 9223372036854775807 := by
  unfold colsOf; split
  · exact h.r
  · exact h.l
theorem keysLen {p : Pln} (h : wfPlan p) (side : Int) : (keysOf p side).length ≤ 9223372036854775807 := by
  unfold keysOf; split
  · exact h.rk
  · exact h.lk
def cellB (c : Cel) (t : Int) : Bool := decide (c.k = 0 ∨ c.k = t)
def typedB (r : List Cel) (c : List Int) : Bool := decide (r.length = c.length) && allB r.length (fun i => cellB (r.getD i default) (c.getD i 0))
def rErr (p : Pln) (side : Int) (r : List Cel) : Int :=
  if sideB side = false then 4 else if r.length ≠ (colsOf p side).length then 2 else if errR r ≠ 0 then errR r else if typedB r (colsOf p side) = false then 5 else 0
def rowErr (p : Pln) (side : Int) (r : List Cel) : Int := if planErr p = 0 then rErr p side r else planErr p

set_option maxHeartbeats 2000000 in
theorem ty1_any (i : Nat) (B : Nat) (ad : Option Addr) (cp : Nat) (c : List Int) (k n : Int) (s : ByteArray) (w : World) (hi : i < c.length) (hl : c.length ≤ 9223372036854775807) (hc : intsAt w ad c) (hb : w.cell? ⟨B, 0, none⟩ = some (.slice ad c.length cp)) :
    Calls Tryz.prog 122 #[.int .i64 i, .agg #[.int .i64 k, .int .i64 n, .string s], .pointer (some ⟨B, 0, none⟩)] w fun e w' => e = .returned (.bool (cellB ⟨k, n, s⟩ (c.getD i 0))) ∧ Below w.heap.size w w' := by
  have hBlt := World.block_lt_of_cell? _ _ hb
  have hBlt' : B < w.heap.size := hBlt
  obtain ⟨bc, oc, ec, xc⟩ := hc i hi
  subst ec
  have hclt := World.block_lt_of_cell? _ _ xc
  have hclt' : bc < w.heap.size := hclt
  have HB : Hid (cellB ⟨k, n, s⟩ (c.getD i 0) = decide (k = 0 ∨ k = c.getD i 0)) := rfl
  obtain ⟨m, hm⟩ : ∃ z, c.length = z := ⟨_, rfl⟩
  obtain ⟨t, ht⟩ : ∃ z, c.getD i 0 = z := ⟨_, rfl⟩
  rw [hm] at hi hl hb
  rw [ht] at xc HB ⊢
  have i1 : (0 : Int) ≤ (i : Int) := by omega
  have i2 : (i : Int) < (m : Int) := by omega
  clear hm ht hc hBlt hclt
  by_cases hk : k = 0
  · subst hk
    go_enter Tryz.func122, Tryz.ntmps122
    go_wp2
    go_quiet (fail)
    go_wp2
    go_ret
    exact ⟨ret_bool (by rw [HB.out]; simp), below_dn ((Below.refl _ _).alloc (Nat.le_refl _) _) _⟩
  · have hk' : (k == 0) = false := by simpa using hk
    have HB2 : Hid (cellB ⟨k, n, s⟩ t = (k == t)) := by show cellB ⟨k, n, s⟩ t = _; rw [HB.out]; exact Bool.eq_iff_iff.2 (by simp [hk])
    clear hk HB
    go_enter Tryz.func122, Tryz.ntmps122
    go_wp2
    go_quiet (fail)
    go_wp2
    go_ret
    exact ⟨ret_bool HB2.out.symm, below_dn ((Below.refl _ _).alloc (Nat.le_refl _) _) _⟩
set_option maxHeartbeats 1000000 in
theorem typed_any (a ad : Option Addr) (ca cp : Nat) (r : List Cel) (c : List Int) (w : World) (hl : r.length ≤ 9223372036854775807) (hcl : c.length ≤ 9223372036854775807) (ha : vl.rowAt w a r) (hc : intsAt w ad c) :
    Calls Tryz.prog 75 #[.slice a r.length ca, .slice ad c.length cp] w fun e w' => e = .returned (.bool (typedB r c)) ∧ Below w.heap.size w w' := by
  have K : Hid (∀ B w1, Below w.heap.size w w1 → r.length = c.length → w1.cell? ⟨B, 0, none⟩ = some (.slice ad c.length cp) →
      Calls Tryz.prog 121 #[.slice a r.length ca, .func (.func 122) #[] #[.pointer (some ⟨B, 0, none⟩)]] w1 fun e w' => e = .returned (.bool (allB r.length (fun i => cellB (r.getD i default) (c.getD i 0)))) ∧ Below w1.heap.size w1 w') := by
    intro B w1 hb hlen e0
    exact everyVal_any 122 (enters_of Tryz.func122 (by kernel_rfl) rfl) #[.pointer (some ⟨B, 0, none⟩)] (fun i => cellB (r.getD i default) (c.getD i 0)) a ca r w1 hl (rowAt_below ha hb)
      (fun i w2 hi hb2 => ty1_any i B ad cp c _ _ _ w2 (by omega) hcl (intsAt_below (intsAt_below hc hb) hb2) (cell_later hb2 e0))
  have HB : Hid (typedB r c = (decide (r.length = c.length) && allB r.length (fun i => cellB (r.getD i default) (c.getD i 0)))) := rfl
  obtain ⟨tb, htb⟩ : ∃ z, allB r.length (fun i => cellB (r.getD i default) (c.getD i 0)) = z := ⟨_, rfl⟩
  rw [htb] at K HB
  obtain ⟨m, hm⟩ : ∃ z, r.length = z := ⟨_, rfl⟩
  obtain ⟨k, hk⟩ : ∃ z, c.length = z := ⟨_, rfl⟩
  rw [hm, hk] at K HB
  rw [hm, hk]
  clear hm hk htb ha hc hl hcl
  by_cases he : m = k
  · subst he
    rw [show decide (m = m) = true by simp] at HB
    have he' : ((m : Int) == m) = true := by simp
    go_enter Tryz.func75, Tryz.ntmps75
    go_wp2_with (go_at_call 121; refine (K.out _ _ ((Below.refl _ _).alloc (Nat.le_refl _) _) (by trivial) (by go_simp)).mono ?_; rintro e w1 ⟨rfl, hb1⟩)
    go_ret
    exact ⟨ret_bool (by rw [HB.out]; simp), ((Below.refl _ _).alloc (Nat.le_refl _) _).trans (hb1.mono (by simp))⟩
  · have he' : ((m : Int) == k) = false := by simp; omega
    rw [decide_eq_false he] at HB
    clear he
    go_enter Tryz.func75, Tryz.ntmps75
    go_wp2
    go_ret
    exact ⟨ret_bool (by rw [HB.out]; rfl), (Below.refl _ _).alloc (Nat.le_refl _) _⟩

/-- ErrMany and ErrType of a row whose cells may be -/
def fErr (c : List Int) (r : List Cel) : Int := if r.length ≠ c.length then 2 else if typedB r c = false then 5 else 0
theorem fErr_bad {c : List Int} {r : List Cel} {i : Nat} (hl : r.length = c.length) (hi : i < r.length) (h : cellB (r.getD i default) (c.getD i 0) = false) : fErr c r = 5 := by
  unfold fErr typedB
  rw [if_neg (by simp [hl]), allB_no hi h]; simp
theorem fErr_ok {c : List Int} {r : List Cel} (hl : r.length = c.length) (h : ∀ i, i < r.length → cellB (r.getD i default) (c.getD i 0) = true) : fErr c r = 0 := by
  unfold fErr typedB
  rw [if_neg (by simp [hl]), allB_iff.2 h, decide_eq_true hl]; simp
set_option maxHeartbeats 4000000 in
theorem fitsTypes_any (a ad : Option Addr) (ca cp : Nat) (r : List Cel) (c : List Int) (w : World) (hl : r.length ≤ 9223372036854775807) (hcl : c.length ≤ 9223372036854775807) (ha : vl.rowAt w a r) (hc : intsAt w ad c) :
    Calls Tryz.prog 24 #[.slice ad c.length cp, .slice a r.length ca] w fun e w' => e = .returned (.int .i64 (fErr c r)) ∧ Below w.heap.size w w' := by
  have HA : Hid (vl.rowAt w a r) := ha
  have HC : Hid (intsAt w ad c) := hc
  have HB : Hid (∀ i, r.length = c.length → i < r.length → cellB (r.getD i default) (c.getD i 0) = false → fErr c r = 5) := fun i h1 h2 h3 => fErr_bad h1 h2 h3
  have HO : Hid (r.length = c.length → (∀ i, i < r.length → cellB (r.getD i default) (c.getD i 0) = true) → fErr c r = 0) := fErr_ok
  have HN : Hid (r.length ≠ c.length → fErr c r = 2) := fun h => if_pos h
  obtain ⟨fe, hfe⟩ : ∃ z, fErr c r = z := ⟨_, rfl⟩
  rw [hfe] at HB HO HN ⊢
  obtain ⟨m, hm⟩ : ∃ z, r.length = z := ⟨_, rfl⟩
  obtain ⟨k, hk⟩ : ∃ z, c.length = z := ⟨_, rfl⟩
  have HM : Hid (r.length = m) := hm
  have HK : Hid (c.length = k) := hk
  rw [hm] at hl HB HO HN ⊢
  rw [hk] at hcl HB HO HN ⊢
  clear hfe hm hk ha hc
  by_cases he : m = k
  · subst he
    have he' : ((m : Int) != m) = false := by simp
    go_enter Tryz.func24, Tryz.ntmps24
    go_wp2
    go_loopw [5] (fun i wr => ∃ j : Nat, j ≤ m ∧ i = .int .i64 j ∧ Below w.heap.size w wr ∧ ∀ i, i < j → cellB (r.getD i default) (c.getD i 0) = true) (fun i _ => m - (intOf i).toNat)
    case atStart => exact ⟨0, Nat.zero_le _, rfl, Below.refl _ _, fun i hi => absurd hi (Nat.not_lt_zero i)⟩
    case round =>
      obtain ⟨j, hj, rfl, hnx, hall⟩ := hrel
      have HAL : Hid (∀ i, i < j → cellB (r.getD i default) (c.getD i 0) = true) := hall
      clear hall
      by_cases hlt : j < m
      · obtain ⟨b1, o1, e1, x1, x2, x3⟩ := HA.out j (by rw [HM.out]; exact hlt)
        obtain ⟨b2, o2, e2, y1⟩ := HC.out j (by rw [HK.out]; exact hlt)
        subst e1 e2
        have q1 := cell_later hnx x1
        have q2 := cell_later hnx y1
        have i1 : (0 : Int) ≤ (j : Int) := by omega
        have i2 : (j : Int) < (m : Int) := by omega
        have HBJ : Hid (cellB (r.getD j default) (c.getD j 0) = decide ((r.getD j default).k = 0 ∨ (r.getD j default).k = c.getD j 0)) := rfl
        obtain ⟨kv, hkv⟩ : ∃ z, (r.getD j default).k = z := ⟨_, rfl⟩
        obtain ⟨tv, htv⟩ : ∃ z, c.getD j 0 = z := ⟨_, rfl⟩
        rw [hkv] at q1 HBJ
        rw [htv] at q2
        have HBK : Hid (cellB (r.getD j default) (c.getD j 0) = decide (kv = 0 ∨ kv = tv)) := by show cellB (r.getD j default) (c.getD j 0) = _; rw [HBJ.out, htv]
        clear hkv htv x1 x2 x3 y1 HBJ
        have HSTEP : Hid (cellB (r.getD j default) (c.getD j 0) = true → ∀ i, i < j + 1 → cellB (r.getD i default) (c.getD i 0) = true) := fun h i hi => by
          rcases Nat.lt_succ_iff_lt_or_eq.1 hi with h1 | h1
          · exact HAL.out i h1
          · rw [h1]; exact h
        by_cases hk : kv = 0
        · subst hk
          have HX : Hid (cellB (r.getD j default) (c.getD j 0) = true) := by show cellB (r.getD j default) (c.getD j 0) = true; rw [HBK.out]; simp
          go_wp2
          go_quiet (fail)
          go_wp2
          go_roundw
          case rel => exact ⟨j + 1, by omega, by go_num, below_dn hnx _, HSTEP.out HX.out⟩
          case measure => simp [intOf]; omega
        · have hk' : (kv != 0) = true := by simpa using hk
          by_cases ht : kv = tv
          · have ht' : (kv != tv) = false := by simpa using ht
            have HX : Hid (cellB (r.getD j default) (c.getD j 0) = true) := by show cellB (r.getD j default) (c.getD j 0) = true; rw [HBK.out]; exact decide_eq_true (.inr ht)
            clear hk ht
            go_wp2
            go_quiet (fail)
            go_wp2
            go_roundw
            case rel => exact ⟨j + 1, by omega, by go_num, below_dn hnx _, HSTEP.out HX.out⟩
            case measure => simp [intOf]; omega
          · have ht' : (kv != tv) = true := by simpa using ht
            have HX : Hid (fe = 5) := HB.out j (by trivial) hlt (by rw [HBK.out]; exact decide_eq_false (fun h => h.elim hk ht))
            clear hk ht
            go_wp2
            go_quiet (fail)
            go_wp2
            go_ret
            exact ⟨ret_int HX.out.symm, below_dn hnx _⟩
      · have HX : Hid (fe = 0) := HO.out (by trivial) (fun i hi => HAL.out i (by omega))
        go_wp2
        go_ret
        exact ⟨ret_int HX.out.symm, hnx⟩
  · have he' : ((m : Int) != k) = true := by simp; omega
    have HX : Hid (fe = 2) := HN.out he
    clear he
    go_enter Tryz.func24, Tryz.ntmps24
    go_wp2
    go_ret
    exact ⟨ret_int HX.out.symm, Below.refl _ _⟩
end Go.Proofs.YtbfbgdinhiglaaaGreat.pl

/- Row and the document's RowError. -/
namespace Go.Proofs.YtbfbgdinhiglaaaGreat.pl
open Go.ChangeShapes Go.WideShapes Go.ChangeAt Go.RowKit
open vl
set_option linter.unusedVariables false
set_option linter.unusedSimpArgs false
def rErr4 (sb : Bool) (n m : Nat) (er : Int) (tb : Bool) : Int := if sb = false then 4 else if n ≠ m then 2 else if er ≠ 0 then er else if tb = false then 5 else 0
theorem errR_key {r : List Cel} (h : r.length ≤ 8) : keyErr r = errR r := by unfold keyErr; rw [if_neg (by omega)]
end Go.Proofs.YtbfbgdinhiglaaaGreat.pl

/- Pick, and KeyOf. -/
namespace Go.Proofs.YtbfbgdinhiglaaaGreat.pl
open Go.ChangeShapes Go.WideShapes Go.ChangeAt Go.RowKit
open vl
set_option linter.unusedVariables false
set_option linter.unusedSimpArgs false
/-- the cells at these places -/
def pickR (r : List Cel) (l : List Int) : List Cel := l.map fun i => r.getD i.toNat default
theorem take_snocI (l : List Int) (k : Nat) (h : k < l.length) : l.take (k + 1) = l.take k ++ [l.getD k 0] := by
  rw [List.take_succ_eq_append_getElem h, getD_get h]
set_option maxRecDepth 10000 in
set_option maxHeartbeats 4000000 in
theorem pick_any (a ad : Option Addr) (ca cp : Nat) (r : List Cel) (l : List Int) (w : World) (hlr : r.length ≤ 9223372036854775807) (hll : l.length ≤ 1000) (ha : vl.rowAt w a r) (hl : intsAt w ad l) (hpl : ∀ x ∈ l, 0 ≤ x ∧ x < (r.length : Int)) :
    Calls Tryz.prog 52 #[.slice a r.length ca, .slice ad l.length cp] w fun e w' => (∃ ad' c', e = .returned (.slice ad' (pickR r l).length c') ∧ ownV w' w.heap.size (.slice ad' (pickR r l).length c') (pickR r l)) ∧ Below w.heap.size w w' := by
  have HA : Hid (vl.rowAt w a r) := ha
  have HL : Hid (intsAt w ad l) := hl
  have HP : Hid (∀ i, i < l.length → 0 ≤ l.getD i 0 ∧ l.getD i 0 < (r.length : Int)) := fun i hi => hpl _ (getD_mem hi)
  obtain ⟨m, hm⟩ : ∃ z, r.length = z := ⟨_, rfl⟩
  obtain ⟨n, hn⟩ : ∃ z, l.length = z := ⟨_, rfl⟩
  have HM : Hid (r.length = m) := hm
  have HN : Hid (l.length = n) := hn
  rw [hm] at hlr HP ⊢
  rw [hn] at hll HP ⊢
  clear hm hn ha hl hpl
  obtain ⟨i0, hi, hz0, hz1, hz2⟩ := info_parts Tryz.infoV
  obtain ⟨w0, hmk, hown0, hgrow0⟩ := run_make_own (P := Tryz.prog) w w.heap.size 50 68 i0 (.agg #[.int .i64 0, .int .i64 0, .string ⟨#[]⟩]) 3 Tryz.underlying50 hi hz0 hz1 .i64 .i64 n (by rw [hz2]; omega) (by unfold maxLen; omega) (Nat.le_refl _)
  have hb0 : Below w.heap.size w w0 := (Below.refl _ _).grown hgrow0 (Nat.le_refl _) (fun b hb => by cases hb)
  have HO0 : Hid (ownV w0 w.heap.size (.slice (some ⟨w.heap.size, 0, none⟩) 0 n) []) := hown0
  clear hi hz0 hz1 hz2 hown0 hgrow0
  have HPK : Hid (∀ k, k < n → pickR r (l.take (k + 1)) = pickR r (l.take k) ++ [r.getD (l.getD k 0).toNat default]) := fun k hk => by
    show pickR r (l.take (k + 1)) = _
    rw [take_snocI l k (by rw [HN.out]; exact hk)]; simp [pickR]
  have HPE : Hid (∀ k, n ≤ k → pickR r (l.take k) = pickR r l) := fun k hk => by
    show pickR r (l.take k) = _
    rw [List.take_of_length_le (by rw [HN.out]; exact hk)]
  have HPL : Hid (∀ k, (pickR r (l.take k)).length ≤ n) := fun k => by
    show (pickR r (l.take k)).length ≤ n
    have : (l.take k).length ≤ l.length := by rw [List.length_take]; omega
    unfold pickR; rw [List.length_map, ← HN.out]; exact this
  obtain ⟨pn, hpn⟩ : ∃ z, (pickR r l).length = z := ⟨_, rfl⟩
  have HPN : Hid ((pickR r l).length = pn) := hpn
  rw [hpn]
  clear hpn
  go_enter Tryz.func52, Tryz.ntmps52
  go_wp2
  go_loopw [5, 7, 13] (fun v _ i wr => ∃ k : Nat, k ≤ n ∧ i = .int .i64 k ∧ ownV wr w.heap.size v (pickR r (l.take k)) ∧ Below w.heap.size w wr) (fun _ _ i _ => n - (intOf i).toNat)
  case atStart => exact ⟨0, Nat.zero_le _, rfl, HO0.out, hb0⟩
  case round =>
    obtain ⟨k, hk, rfl, hov, hnx⟩ := hrel
    have HO : Hid (ownV wr w.heap.size u5 (pickR r (l.take k))) := hov
    have hsz := hnx.size
    clear hov hmk
    by_cases hlt : k < n
    · obtain ⟨b, o, e, xk⟩ := HL.out k (by rw [HN.out]; exact hlt)
      subst e
      have hpk := HP.out k hlt
      have HPKk := HPK.out k hlt
      obtain ⟨z, hz⟩ : ∃ z, l.getD k 0 = z := ⟨_, rfl⟩
      rw [hz] at xk hpk HPKk
      obtain ⟨zn, rfl⟩ := Int.eq_ofNat_of_zero_le hpk.1
      rw [Int.toNat_natCast] at HPKk
      obtain ⟨b1, o1, e1, x1, x2, x3⟩ := HA.out zn (by rw [HM.out]; omega)
      subst e1
      have qk := cell_later hnx xk
      have q1 := cell_later hnx x1
      have q2 := cell_later hnx x2
      have q3 := cell_later hnx x3
      obtain ⟨⟨kv, nv, sv⟩, hcv⟩ : ∃ z, r.getD zn default = z := ⟨_, rfl⟩
      rw [hcv] at q1 q2 q3 HPKk
      dsimp only at q1 q2 q3
      have HPK2 : Hid (pickR r (l.take (k + 1)) = pickR r (l.take k) ++ [⟨kv, nv, sv⟩]) := HPKk
      have i1 : (0 : Int) ≤ (k : Int) := by omega
      have i2 : (k : Int) < (n : Int) := by omega
      have i3 : (0 : Int) ≤ (zn : Int) := by omega
      have i4 : (zn : Int) < (m : Int) := by omega
      have hpl := HPL.out k
      obtain ⟨pr, hpr⟩ : ∃ z, pickR r (l.take k) = z := ⟨_, rfl⟩
      rw [hpr] at HO HPK2 hpl
      clear xk x1 x2 x3 hz hcv HPKk hpk hpr
      go_wp2_with (at_builtin; refine append_cell rfl (.tmp 17) (.tmp 22) rfl w.heap.size u5 pr rfl wr HO.out ⟨kv, nv, sv⟩ wr.heap.size rfl rfl (by omega) hsz ?_; intro v2 w3 hown3 hgrow3)
      obtain ⟨ad2, c2, hv, _⟩ := own_form hown3
      have hbn := below_appendV hnx hsz HO.out hgrow3
      subst hv
      go_roundw
      case rel => exact ⟨k + 1, by omega, by go_num, by rw [HPK2.out]; exact hown3, hbn⟩
      case measure => simp [intOf]; omega
    · have HPEk := HPE.out k (by omega)
      obtain ⟨ad2, c2, hv, _⟩ := own_form HO.out
      rw [HPEk] at HO hv
      rw [HPN.out] at hv
      subst hv
      clear HPEk HPE HPK HPL
      go_wp2
      go_ret
      exact ⟨⟨_, _, rfl, HO.out⟩, hnx⟩

/-- has one of these cells nothing? -/
def nullB (r : List Cel) : Bool := r.any fun c => c.k == 0
theorem nullB_yes {r : List Cel} {i : Nat} (hi : i < r.length) (h : (r.getD i default).k = 0) : nullB r = true := by
  unfold nullB
  rw [List.any_eq_true]
  exact ⟨_, getD_mem hi, by simpa using h⟩
theorem nullB_no {r : List Cel} (h : ∀ i, i < r.length → (r.getD i default).k ≠ 0) : nullB r = false := by
  unfold nullB
  rw [List.any_eq_false]
  intro c hc
  have := (all_getD (d := default) (Q := fun c : Cel => c.k ≠ 0)).1 h c hc
  simpa using this
/-- D3: a row's key cells -/
def keyRow (p : Pln) (side : Int) (r : List Cel) : List Cel := pickR r (keysOf p side)
def hasB (p : Pln) (side : Int) (r : List Cel) : Bool := decide (rowErr p side r = 0) && !nullB (keyRow p side r)
def keyOfS (p : Pln) (side : Int) (r : List Cel) : ByteArray := ⟨(if hasB p side r = true then encR (keyRow p side r) else []).toArray⟩
theorem rowErr_ok {p : Pln} {side : Int} {r : List Cel} (h : rowErr p side r = 0) : planErr p = 0 ∧ sideB side = true ∧ r.length = (colsOf p side).length ∧ errR r = 0 ∧ typedB r (colsOf p side) = true := by
  unfold rowErr at h
  by_cases h0 : planErr p = 0
  · rw [if_pos h0] at h
    unfold rErr at h
    cases h1 : sideB side with
    | false => rw [h1] at h; cases h
    | true =>
      rw [h1, if_neg (by decide)] at h
      by_cases h2 : r.length = (colsOf p side).length
      · rw [if_neg (by simp [h2])] at h
        by_cases h3 : errR r = 0
        · rw [if_neg (by simp [h3])] at h
          cases h4 : typedB r (colsOf p side) with
          | false => rw [h4] at h; cases h
          | true => exact ⟨h0, rfl, h2, h3, rfl⟩
        · rw [if_pos h3] at h; exact absurd h h3
      · rw [if_pos h2] at h; cases h
  · rw [if_neg h0] at h; exact absurd h h0
theorem keys_in {p : Pln} {side : Int} (h : planErr p = 0) : (∀ x ∈ keysOf p side, 0 ≤ x ∧ x < ((colsOf p side).length : Int)) ∧ (keysOf p side).length ≤ 4 := by
  obtain ⟨_, _, hm, _, hf⟩ := planErr_ok h
  have hl := many_len hm
  unfold keysOf colsOf
  split
  · exact ⟨hf.2.1.2.2.1.1, by omega⟩
  · exact ⟨hf.2.1.2.1.1, by omega⟩
theorem pick_ok {r : List Cel} {l : List Int} (hl : l.length ≤ 8) (hp : ∀ x ∈ l, 0 ≤ x ∧ x < (r.length : Int)) (he : errR r = 0) (hw : wfRow r) : rowOk (pickR r l) := by
  refine ⟨by unfold pickR; rw [List.length_map]; exact hl, fun c hc => ?_⟩
  obtain ⟨i, hi, rfl⟩ := List.mem_map.1 hc
  have := hp i hi
  have hm : r.getD i.toNat default ∈ r := getD_mem (by omega)
  exact ⟨all_ok he _ hm, hw _ hm⟩
theorem ret_three {s t : ByteArray} {a b : Bool} {x y : Int} (h1 : s = t) (h2 : a = b) (h3 : x = y) : Ending.returned (.tuple #[.string s, .bool a, .int .i64 x]) = .returned (.tuple #[.string t, .bool b, .int .i64 y]) := by rw [h1, h2, h3]
end Go.Proofs.YtbfbgdinhiglaaaGreat.pl

/- The document's KeyFor. -/
namespace Go.Proofs.YtbfbgdinhiglaaaGreat.pl
open Go.ChangeShapes Go.WideShapes Go.ChangeAt Go.RowKit
open vl
set_option linter.unusedVariables false
set_option linter.unusedSimpArgs false
theorem ret_sb {s t : ByteArray} {a b : Bool} (h1 : s = t) (h2 : a = b) : Ending.returned (.tuple #[.string s, .bool a]) = .returned (.tuple #[.string t, .bool b]) := by rw [h1, h2]
theorem pickR_at (r : List Cel) (l : List Int) (k : Nat) (h : k < l.length) : (pickR r l).getD k default = r.getD (l.getD k 0).toNat default := by
  unfold pickR
  simp [List.getD_eq_getElem?_getD, h]
end Go.Proofs.YtbfbgdinhiglaaaGreat.pl
