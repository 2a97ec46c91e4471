import Derived.Test.YtbfbgdinhiglaaaGreatS11
import Derived.Test.YtbfbgdinhiglaaaGreatMgPlnE
import Derived.Test.YtbfbgdinhiglaaaGreatS5
import Derived.Test.YtbfbgdinhiglaaaGreatS9
/- Several texts in one: PlnRCheck, PlnRCheck2, PlnGone, PlnGone2. -/
/- The document's CheckPlan: what is wrong with a plan. -/
namespace Go.Proofs.YtbfbgdinhiglaaaGreat.pl
open Go.ChangeShapes Go.WideShapes Go.ChangeAt Go.RowKit
open vl
set_option linter.unusedVariables false
set_option linter.unusedSimpArgs false
end Go.Proofs.YtbfbgdinhiglaaaGreat.pl

/- The document's CheckPlan at plans whose lists are long. -/
namespace Go.Proofs.YtbfbgdinhiglaaaGreat.pl
open Go.ChangeShapes Go.WideShapes Go.ChangeAt Go.RowKit
open vl
set_option linter.unusedVariables false
set_option linter.unusedSimpArgs false
end Go.Proofs.YtbfbgdinhiglaaaGreat.pl

/- Gone, and the document's GoneAt. -/
namespace Go.Proofs.YtbfbgdinhiglaaaGreat.pl
open Go.ChangeShapes Go.WideShapes Go.ChangeAt Go.RowKit
open vl
set_option linter.unusedVariables false
set_option linter.unusedSimpArgs false
end Go.Proofs.YtbfbgdinhiglaaaGreat.pl

/- Gone, and the document's GoneAt: the whole. -/
namespace Go.Proofs.YtbfbgdinhiglaaaGreat.pl
open Go.ChangeShapes Go.WideShapes Go.ChangeAt Go.RowKit
open vl
set_option linter.unusedVariables false
set_option linter.unusedSimpArgs false
end Go.Proofs.YtbfbgdinhiglaaaGreat.pl
/- Several texts in one: PlnRow, PlnRow2, PlnPick, PlnKeyFor. -/
/- Columns, keysOf, Typed, Row; the document's fitsTypes and RowError. -/
namespace Go.Proofs.YtbfbgdinhiglaaaGreat.pl
open Go.ChangeShapes Go.WideShapes Go.ChangeAt Go.RowKit
open vl
set_option linter.unusedVariables false
set_option linter.unusedSimpArgs false
def cellB (c : Cel) (t : Int) : Bool := decide (c.k = 0 ∨ c.k = t)
def typedB (r : List Cel) (c : List Int) : Bool := decide (r.length = c.length) && allB r.length (fun i => cellB (r.getD i default) (c.getD i 0))
set_option maxHeartbeats 2000000 in
theorem ty1_any (i : Nat) (B : Nat) (ad : Option Addr) (cp : Nat) (c : List Int) (k n : Int) (s : ByteArray) (w : World) (hi : i < c.length) (hl : c.length ≤ 9223372036854775807) (hc : intsAt w ad c) (hb : w.cell? ⟨B, 0, none⟩ = some (.slice ad c.length cp)) :
    Calls Tryz.prog 122 #[.int .i64 i, .agg #[.int .i64 k, .int .i64 n, .string s], .pointer (some ⟨B, 0, none⟩)] w fun e w' => e = .returned (.bool (cellB ⟨k, n, s⟩ (c.getD i 0))) ∧ Below w.heap.size w w' := by
  have hBlt := World.block_lt_of_cell? _ _ hb
  have hBlt' : B < w.heap.size := hBlt
  obtain ⟨bc, oc, ec, xc⟩ := hc i hi
  subst ec
  have hclt := World.block_lt_of_cell? _ _ xc
  have hclt' : bc < w.heap.size := hclt
  have HB : Hid (cellB ⟨k, n, s⟩ (c.getD i 0) = decide (k = 0 ∨ k = c.getD i 0)) := rfl
  obtain ⟨m, hm⟩ : ∃ z, c.length = z := ⟨_, rfl⟩
  obtain ⟨t, ht⟩ : ∃ z, c.getD i 0 = z := ⟨_, rfl⟩
  rw [hm] at hi hl hb
  rw [ht] at xc HB ⊢
  have i1 : (0 : Int) ≤ (i : Int) := by omega
  have i2 : (i : Int) < (m : Int) := by omega
  clear hm ht hc hBlt hclt
  by_cases hk : k = 0
  · subst hk
    go_enter Tryz.func122, Tryz.ntmps122
    go_wp2
    go_quiet (fail)
    go_wp2
    go_ret
    exact ⟨ret_bool (by rw [HB.out]; simp), below_dn ((Below.refl _ _).alloc (Nat.le_refl _) _) _⟩
  · have hk' : (k == 0) = false := by simpa using hk
    have HB2 : Hid (cellB ⟨k, n, s⟩ t = (k == t)) := by show cellB ⟨k, n, s⟩ t = _; rw [HB.out]; exact Bool.eq_iff_iff.2 (by simp [hk])
    clear hk HB
    go_enter Tryz.func122, Tryz.ntmps122
    go_wp2
    go_quiet (fail)
    go_wp2
    go_ret
    exact ⟨ret_bool HB2.out.symm, below_dn ((Below.refl _ _).alloc (Nat.le_refl _) _) _⟩
set_option maxHeartbeats 1000000 in
theorem typed_any (a ad : Option Addr) (ca cp : Nat) (r : List Cel) (c : List Int) (w : World) (hl : r.length ≤ 9223372036854775807) (hcl : c.length ≤ 9223372036854775807) (ha : vl.rowAt w a r) (hc : intsAt w ad c) :
    Calls Tryz.prog 75 #[.slice a r.length ca, .slice ad c.length cp] w fun e w' => e = .returned (.bool (typedB r c)) ∧ Below w.heap.size w w' := by
  have K : Hid (∀ B w1, Below w.heap.size w w1 → r.length = c.length → w1.cell? ⟨B, 0, none⟩ = some (.slice ad c.length cp) →
      Calls Tryz.prog 121 #[.slice a r.length ca, .func (.func 122) #[] #[.pointer (some ⟨B, 0, none⟩)]] w1 fun e w' => e = .returned (.bool (allB r.length (fun i => cellB (r.getD i default) (c.getD i 0)))) ∧ Below w1.heap.size w1 w') := by
    intro B w1 hb hlen e0
    exact everyVal_any 122 (enters_of Tryz.func122 (by kernel_rfl) rfl) #[.pointer (some ⟨B, 0, none⟩)] (fun i => cellB (r.getD i default) (c.getD i 0)) a ca r w1 hl (rowAt_below ha hb)
      (fun i w2 hi hb2 => ty1_any i B ad cp c _ _ _ w2 (by omega) hcl (intsAt_below (intsAt_below hc hb) hb2) (cell_later hb2 e0))
  have HB : Hid (typedB r c = (decide (r.length = c.length) && allB r.length (fun i => cellB (r.getD i default) (c.getD i 0)))) := rfl
  obtain ⟨tb, htb⟩ : ∃ z, allB r.length (fun i => cellB (r.getD i default) (c.getD i 0)) = z := ⟨_, rfl⟩
  rw [htb] at K HB
  obtain ⟨m, hm⟩ : ∃ z, r.length = z := ⟨_, rfl⟩
  obtain ⟨k, hk⟩ : ∃ z, c.length = z := ⟨_, rfl⟩
  rw [hm, hk] at K HB
  rw [hm, hk]
  clear hm hk htb ha hc hl hcl
  by_cases he : m = k
  · subst he
    rw [show decide (m = m) = true by simp] at HB
    have he' : ((m : Int) == m) = true := by simp
    go_enter Tryz.func75, Tryz.ntmps75
    go_wp2_with (go_at_call 121; refine (K.out _ _ ((Below.refl _ _).alloc (Nat.le_refl _) _) (by trivial) (by go_simp)).mono ?_; rintro e w1 ⟨rfl, hb1⟩)
    go_ret
    exact ⟨ret_bool (by rw [HB.out]; simp), ((Below.refl _ _).alloc (Nat.le_refl _) _).trans (hb1.mono (by simp))⟩
  · have he' : ((m : Int) == k) = false := by simp; omega
    rw [decide_eq_false he] at HB
    clear he
    go_enter Tryz.func75, Tryz.ntmps75
    go_wp2
    go_ret
    exact ⟨ret_bool (by rw [HB.out]; rfl), (Below.refl _ _).alloc (Nat.le_refl _) _⟩

/-- ErrMany and ErrType of a row whose cells may be -/
def fErr (c : List Int) (r : List Cel) : Int := if r.length ≠ c.length then 2 else if typedB r c = false then 5 else 0
end Go.Proofs.YtbfbgdinhiglaaaGreat.pl

/- Row and the document's RowError. -/
namespace Go.Proofs.YtbfbgdinhiglaaaGreat.pl
open Go.ChangeShapes Go.WideShapes Go.ChangeAt Go.RowKit
open vl
set_option linter.unusedVariables false
set_option linter.unusedSimpArgs false
end Go.Proofs.YtbfbgdinhiglaaaGreat.pl

/- Pick, and KeyOf. -/
namespace Go.Proofs.YtbfbgdinhiglaaaGreat.pl
open Go.ChangeShapes Go.WideShapes Go.ChangeAt Go.RowKit
open vl
set_option linter.unusedVariables false
set_option linter.unusedSimpArgs false
/-- the cells at these places -/
def pickR (r : List Cel) (l : List Int) : List Cel := l.map fun i => r.getD i.toNat default
theorem take_snocI (l : List Int) (k : Nat) (h : k < l.length) : l.take (k + 1) = l.take k ++ [l.getD k 0] := by
  rw [List.take_succ_eq_append_getElem h, getD_get h]
set_option maxRecDepth 10000 in
set_option maxHeartbeats 4000000 in
theorem pick_any (a ad : Option Addr) (ca cp : Nat) (r : List Cel) (l : List Int) (w : World) (hlr : r.length ≤ 9223372036854775807) (hll : l.length ≤ 1000) (ha : vl.rowAt w a r) (hl : intsAt w ad l) (hpl : ∀ x ∈ l, 0 ≤ x ∧ x < (r.length : Int)) :
    Calls Tryz.prog 52 #[.slice a r.length ca, .slice ad l.length cp] w fun e w' => (∃ ad' c', e = .returned (.slice ad' (pickR r l).length c') ∧ ownV w' w.heap.size (.slice ad' (pickR r l).length c') (pickR r l)) ∧ Below w.heap.size w w' := by
  have HA : Hid (vl.rowAt w a r) := ha
  have HL : Hid (intsAt w ad l) := hl
  have HP : Hid (∀ i, i < l.length → 0 ≤ l.getD i 0 ∧ l.getD i 0 < (r.length : Int)) := fun i hi => hpl _ (getD_mem hi)
  obtain ⟨m, hm⟩ : ∃ z, r.length = z := ⟨_, rfl⟩
  obtain ⟨n, hn⟩ : ∃ z, l.length = z := ⟨_, rfl⟩
  have HM : Hid (r.length = m) := hm
  have HN : Hid (l.length = n) := hn
  rw [hm] at hlr HP ⊢
  rw [hn] at hll HP ⊢
  clear hm hn ha hl hpl
  obtain ⟨i0, hi, hz0, hz1, hz2⟩ := info_parts Tryz.infoV
  obtain ⟨w0, hmk, hown0, hgrow0⟩ := run_make_own (P := Tryz.prog) w w.heap.size 50 68 i0 (.agg #[.int .i64 0, .int .i64 0, .string ⟨#[]⟩]) 3 Tryz.underlying50 hi hz0 hz1 .i64 .i64 n (by rw [hz2]; omega) (by unfold maxLen; omega) (Nat.le_refl _)
  have hb0 : Below w.heap.size w w0 := (Below.refl _ _).grown hgrow0 (Nat.le_refl _) (fun b hb => by cases hb)
  have HO0 : Hid (ownV w0 w.heap.size (.slice (some ⟨w.heap.size, 0, none⟩) 0 n) []) := hown0
  clear hi hz0 hz1 hz2 hown0 hgrow0
  have HPK : Hid (∀ k, k < n → pickR r (l.take (k + 1)) = pickR r (l.take k) ++ [r.getD (l.getD k 0).toNat default]) := fun k hk => by
    show pickR r (l.take (k + 1)) = _
    rw [take_snocI l k (by rw [HN.out]; exact hk)]; simp [pickR]
  have HPE : Hid (∀ k, n ≤ k → pickR r (l.take k) = pickR r l) := fun k hk => by
    show pickR r (l.take k) = _
    rw [List.take_of_length_le (by rw [HN.out]; exact hk)]
  have HPL : Hid (∀ k, (pickR r (l.take k)).length ≤ n) := fun k => by
    show (pickR r (l.take k)).length ≤ n
    have : (l.take k).length ≤ l.length := by rw [List.length_take]; omega
    unfold pickR; rw [List.length_map, ← HN.out]; exact this
  obtain ⟨pn, hpn⟩ : ∃ z, (pickR r l).length = z := ⟨_, rfl⟩
  have HPN : Hid ((pickR r l).length = pn) := hpn
  rw [hpn]
  clear hpn
  go_enter Tryz.func52, Tryz.ntmps52
  go_wp2
  go_loopw [5, 7, 13] (fun v _ i wr => ∃ k : Nat, k ≤ n ∧ i = .int .i64 k ∧ ownV wr w.heap.size v (pickR r (l.take k)) ∧ Below w.heap.size w wr) (fun _ _ i _ => n - (intOf i).toNat)
  case atStart => exact ⟨0, Nat.zero_le _, rfl, HO0.out, hb0⟩
  case round =>
    obtain ⟨k, hk, rfl, hov, hnx⟩ := hrel
    have HO : Hid (ownV wr w.heap.size u5 (pickR r (l.take k))) := hov
    have hsz := hnx.size
    clear hov hmk
    by_cases hlt : k < n
    · obtain ⟨b, o, e, xk⟩ := HL.out k (by rw [HN.out]; exact hlt)
      subst e
      have hpk := HP.out k hlt
      have HPKk := HPK.out k hlt
      obtain ⟨z, hz⟩ : ∃ z, l.getD k 0 = z := ⟨_, rfl⟩
      rw [hz] at xk hpk HPKk
      obtain ⟨zn, rfl⟩ := Int.eq_ofNat_of_zero_le hpk.1
      rw [Int.toNat_natCast] at HPKk
      obtain ⟨b1, o1, e1, x1, x2, x3⟩ := HA.out zn (by rw [HM.out]; omega)
      subst e1
      have qk := cell_later hnx xk
      have q1 := cell_later hnx x1
      have q2 := cell_later hnx x2
      have q3 := cell_later hnx x3
      obtain ⟨⟨kv, nv, sv⟩, hcv⟩ : ∃ z, r.getD zn default = z := ⟨_, rfl⟩
      rw [hcv] at q1 q2 q3 HPKk
      dsimp only at q1 q2 q3
      have HPK2 : Hid (pickR r (l.take (k + 1)) = pickR r (l.take k) ++ [⟨kv, nv, sv⟩]) := HPKk
      have i1 : (0 : Int) ≤ (k : Int) := by omega
      have i2 : (k : Int) < (n : Int) := by omega
      have i3 : (0 : Int) ≤ (zn : Int) := by omega
      have i4 : (zn : Int) < (m : Int) := by omega
      have hpl := HPL.out k
      obtain ⟨pr, hpr⟩ : ∃ z, pickR r (l.take k) = z := ⟨_, rfl⟩
      rw [hpr] at HO HPK2 hpl
      clear xk x1 x2 x3 hz hcv HPKk hpk hpr
      go_wp2_with (at_builtin; refine append_cell rfl (.tmp 17) (.tmp 22) rfl w.heap.size u5 pr rfl wr HO.out ⟨kv, nv, sv⟩ wr.heap.size rfl rfl (by omega) hsz ?_; intro v2 w3 hown3 hgrow3)
      obtain ⟨ad2, c2, hv, _⟩ := own_form hown3
      have hbn := below_appendV hnx hsz HO.out hgrow3
      subst hv
      go_roundw
      case rel => exact ⟨k + 1, by omega, by go_num, by rw [HPK2.out]; exact hown3, hbn⟩
      case measure => simp [intOf]; omega
    · have HPEk := HPE.out k (by omega)
      obtain ⟨ad2, c2, hv, _⟩ := own_form HO.out
      rw [HPEk] at HO hv
      rw [HPN.out] at hv
      subst hv
      clear HPEk HPE HPK HPL
      go_wp2
      go_ret
      exact ⟨⟨_, _, rfl, HO.out⟩, hnx⟩

theorem pick_ok {r : List Cel} {l : List Int} (hl : l.length ≤ 8) (hp : ∀ x ∈ l, 0 ≤ x ∧ x < (r.length : Int)) (he : errR r = 0) (hw : wfRow r) : rowOk (pickR r l) := by
  refine ⟨by unfold pickR; rw [List.length_map]; exact hl, fun c hc => ?_⟩
  obtain ⟨i, hi, rfl⟩ := List.mem_map.1 hc
  have := hp i hi
  have hm : r.getD i.toNat default ∈ r := getD_mem (by omega)
  exact ⟨all_ok he _ hm, hw _ hm⟩
end Go.Proofs.YtbfbgdinhiglaaaGreat.pl

/- The document's KeyFor. -/
namespace Go.Proofs.YtbfbgdinhiglaaaGreat.pl
open Go.ChangeShapes Go.WideShapes Go.ChangeAt Go.RowKit
open vl
set_option linter.unusedVariables false
set_option linter.unusedSimpArgs false
end Go.Proofs.YtbfbgdinhiglaaaGreat.pl
/- Several texts in one: BatPure, BatTold, BatCheck, BatRows. -/
/- Rows with their times, in memory; what keeps rows from being joined (E3). -/
namespace Go.Proofs.YtbfbgdinhiglaaaGreat.bt
open Go.ChangeShapes Go.WideShapes Go.ChangeAt Go.RowKit
open vl pl
set_option linter.unusedVariables false
set_option linter.unusedSimpArgs false
end Go.Proofs.YtbfbgdinhiglaaaGreat.bt

/- What a join tells, row by row (E1, E2): no Go in sight. -/
namespace Go.Proofs.YtbfbgdinhiglaaaGreat.bt
open vl pl
set_option linter.unusedVariables false
set_option linter.unusedSimpArgs false
end Go.Proofs.YtbfbgdinhiglaaaGreat.bt

/- What keeps rows from being joined: timesFit, mayComeIn, checkRows. -/
namespace Go.Proofs.YtbfbgdinhiglaaaGreat.bt
open Go.ChangeShapes Go.WideShapes Go.ChangeAt Go.RowKit
open vl pl
set_option linter.unusedVariables false
set_option linter.unusedSimpArgs false
end Go.Proofs.YtbfbgdinhiglaaaGreat.bt

/- E3: what keeps rows from being joined: checkRows. -/
namespace Go.Proofs.YtbfbgdinhiglaaaGreat.bt
open Go.ChangeShapes Go.WideShapes Go.ChangeAt Go.RowKit
open vl pl
set_option linter.unusedVariables false
set_option linter.unusedSimpArgs false
end Go.Proofs.YtbfbgdinhiglaaaGreat.bt
/- Several texts in one: BatFold. -/
/- What a join tells, as changes: each of them can be done; and how often a row comes of it. No Go in sight. -/
namespace Go.Proofs.YtbfbgdinhiglaaaGreat.bt
open vl pl
set_option linter.unusedVariables false
set_option linter.unusedSimpArgs false
theorem cols_few {p : Pln} (h : planErr p = 0) : p.left.length ≤ 4 ∧ p.right.length ≤ 4 := by
  have hm := (planErr_ok h).2.2.1
  exact ⟨hm.1.1.2, hm.1.2.1.2⟩
end Go.Proofs.YtbfbgdinhiglaaaGreat.bt
