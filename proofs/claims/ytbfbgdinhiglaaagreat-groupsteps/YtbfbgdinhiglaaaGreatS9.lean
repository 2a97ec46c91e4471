import Derived.Test.YtbfbgdinhiglaaaGreatS8
import Derived.Deep.Onto
import Derived.Laws.MakeOwn
namespace Go.Proofs.YtbfbgdinhiglaaaGreat.ch
open Go.ChangeShapes Go.WideShapes Go.ChangeAt Go.RowKit Go.Maps Go.WideMaps
open vl
set_option linter.unusedVariables false
set_option linter.unusedSimpArgs false
theorem own_same {w w' : World} {base : Nat} {e : TypeId} {size : Nat} {v : Value} {n : Nat} {xs : List Value} (h : w.ownsRow base e size v n xs) (hb : ∀ g, v.ownBlock = some g → w'.heap[g]? = w.heap[g]?) : w'.ownsRow base e size v n xs := by
 refine ⟨h.1, ?_⟩
 rcases h.2 with h0 | ⟨g, cap, cur, hv, h1, hg, h2⟩
 ·exact .inl h0
 ·exact .inr ⟨g, cap, cur, hv, h1, by rw [hb g (by rw [hv]; rfl)]; exact hg, h2⟩
theorem own_lt {w : World} {base : Nat} {e : TypeId} {size : Nat} {v : Value} {n : Nat} {xs : List Value} (h : w.ownsRow base e size v n xs) {g : Nat} (hg : v.ownBlock = some g) : base ≤ g ∧ g < w.heap.size := World.ownsRow.lt h g hg
end Go.Proofs.YtbfbgdinhiglaaaGreat.ch
namespace Go.Proofs.YtbfbgdinhiglaaaGreat.ch
open Go.ChangeShapes Go.WideShapes Go.ChangeAt Go.RowKit Go.Maps Go.WideMaps Go.Sort
open vl
set_option linter.unusedVariables false
set_option linter.unusedSimpArgs false
theorem row_form {w : World} {base : Nat} {e : TypeId} {size : Nat} {v : Value} {n : Nat} {xs : List Value} (h : w.ownsRow base e size v n xs) : ∃ ad cap, v = .slice ad n cap ∧ (0 < n → ∃ g, ad = some ⟨g, 0, none⟩) := by
 rcases h.2 with ⟨rfl, h0⟩ | ⟨g, cap, cur, rfl, _⟩
 ·exact ⟨none, 0, by rw [h0], fun h => absurd h0 (by omega)⟩
 ·exact ⟨_, _, rfl, fun _ => ⟨g, rfl⟩⟩
theorem addr_add (g j : Nat) : ((⟨g, 0, none⟩ : Addr).add j) = ⟨g, 0 + j, none⟩ := by unfold Addr.add; split <;> simp_all
end Go.Proofs.YtbfbgdinhiglaaaGreat.ch
namespace Go.Proofs.YtbfbgdinhiglaaaGreat.ch
open Go.ChangeShapes Go.WideShapes Go.ChangeAt Go.RowKit Go.Maps Go.WideMaps
open vl
set_option linter.unusedVariables false
set_option linter.unusedSimpArgs false
end Go.Proofs.YtbfbgdinhiglaaaGreat.ch
namespace Go.Proofs.YtbfbgdinhiglaaaGreat.ch
open Go.ChangeShapes Go.WideShapes Go.ChangeAt Go.RowKit Go.Maps Go.WideMaps
open vl
set_option linter.unusedVariables false
set_option linter.unusedSimpArgs false
structure Chg where
 k : Int
 r : List Cel
instance : Inhabited Chg := ⟨⟨0, []⟩⟩
def chgsAt (w : World) (a : Option Addr) (l : List Chg) : Prop :=
 ∀ i, i < l.length → ∃ b off ra rc, a = some ⟨b, off, none⟩ ∧ w.cell? ⟨b, off + i * 2, none⟩ = some (.int .i64 (l.getD i default).k) ∧ w.cell? ⟨b, off + i * 2 + 1, none⟩ = some (.slice ra (l.getD i default).r.length rc) ∧ vl.rowAt w ra (l.getD i default).r
def wfChgs (l : List Chg) : Prop := ∀ c ∈ l, wfRow c.r ∧ c.r.length ≤ 9223372036854775807 ∧ (-9223372036854775808 ≤ c.k ∧ c.k ≤ 9223372036854775807)
theorem wfc_at {l : List Chg} (h : wfChgs l) (k : Nat) (hk : k < l.length) : wfRow (l.getD k default).r ∧ (l.getD k default).r.length ≤ 9223372036854775807 ∧ (-9223372036854775808 ≤ (l.getD k default).k ∧ (l.getD k default).k ≤ 9223372036854775807) :=
 h _ (by simp [List.getD_eq_getElem?_getD, hk])
theorem chgsAt_below {w w' : World} {a : Option Addr} {l : List Chg} (h : chgsAt w a l) (hb : Below w.heap.size w w') : chgsAt w' a l := by
 intro i hi
 obtain ⟨b, o, ra, rc, e, x1, x2, x3⟩ := h i hi
 exact ⟨b, o, ra, rc, e, cL hb x1, cL hb x2, rowAt_below x3 hb⟩
def pairedAt (l : List Chg) (i : Nat) : Bool :=
 if (l.getD i default).k = 3 then decide (i + 1 < l.length) && decide ((l.getD (i + 1) default).k = 4) else if (l.getD i default).k = 4 then decide (0 < i) && decide ((l.getD (i - 1) default).k = 3) else true
def chgErr (l : List Chg) (i : Nat) : Int :=
 if (l.getD i default).k < 1 ∨ 4 < (l.getD i default).k then 4 else if keyErr (l.getD i default).r = 0 then (if pairedAt l i then 0 else 6) else keyErr (l.getD i default).r
def first (f : Nat → Int) : Nat → Int
 | 0 => 0
 | n + 1 => if first f n = 0 then f n else first f n
theorem first_zero {f : Nat → Int} {n : Nat} (h : ∀ i, i < n → f i = 0) : first f n = 0 := by
 induction n with
 | zero => rfl
 | succ n ih => rw [first, ih (fun i hi => h i (by omega)), if_pos rfl, h n (by omega)]
theorem first_is {f : Nat → Int} {k : Nat} (n : Nat) (h : ∀ i, i < k → f i = 0) (hk : f k ≠ 0) (hkn : k < n) : first f n = f k := by
 induction n with
 | zero => exact absurd hkn (Nat.not_lt_zero k)
 | succ n ih =>
  rw [first]
  by_cases e : k = n
  ·subst e; rw [first_zero h, if_pos rfl]
  ·rw [ih (by omega), if_neg hk]
theorem first_all {f : Nat → Int} {n : Nat} (h : first f n = 0) : ∀ i, i < n → f i = 0 := by
 induction n with
 | zero => intro i hi; exact absurd hi (Nat.not_lt_zero i)
 | succ n ih =>
  rw [first] at h
  split at h
  ·rename_i h0
   intro i hi
   by_cases e : i = n
   ·subst e; exact h
   ·exact ih h0 i (by omega)
  ·contradiction
def formErr (l : List Chg) : Int := if 4096 < l.length then 2 else first (chgErr l) l.length
def chgOk (l : List Chg) (i : Nat) : Prop := 1 ≤ (l.getD i default).k ∧ (l.getD i default).k ≤ 4 ∧ keyErr (l.getD i default).r = 0 ∧ pairedAt l i = true
theorem chgErr_zero {l : List Chg} {i : Nat} (h : chgErr l i = 0) : chgOk l i := by
 unfold chgErr at h
 split at h
 ·cases h
 ·rename_i h1
  split at h
  ·rename_i h2
   split at h
   ·rename_i h3; exact ⟨by omega, by omega, h2, h3⟩
   ·cases h
  ·contradiction
theorem chgErr_ok {l : List Chg} {i : Nat} (h : chgOk l i) : chgErr l i = 0 := by
 obtain ⟨h1, h2, h3, h4⟩ := h
 unfold chgErr
 rw [if_neg (by omega), if_pos h3, if_pos h4]
def formOk (l : List Chg) : Prop := l.length ≤ 4096 ∧ ∀ i, i < l.length → chgOk l i
theorem ok_form {l : List Chg} (h : formOk l) : formErr l = 0 := by
 have := h.1
 unfold formErr
 rw [if_neg (by omega), first_zero (fun i hi => chgErr_ok (h.2 i hi))]
def keysAt (w : World) (ad : Option Addr) (l : List Chg) : Prop :=
 ∀ i, i < l.length → ∃ g, ad = some ⟨g, 0, none⟩ ∧ w.cell? ⟨g, i, none⟩ = some (.string ⟨(encR (l.getD i default).r).toArray⟩)
theorem ret_bool {a b : Bool} (h : a = b) : Ending.returned (.bool a) = .returned (.bool b) := by rw [h]
def moreOf (k : Int) : Int := if k = 1 ∨ k = 4 then 1 else -1
set_option maxHeartbeats 4000000 in
theorem paired_any (a : Option Addr) (cap : Nat) (l : List Chg) (i : Nat) (w : World) (hv : chgsAt w a l) (hw : wfChgs l) (hl : l.length ≤ 1000000) (hi : i < l.length) :
 Calls Tryz.prog 93 #[.slice a l.length cap, .int .i64 i] w fun e w' => e = .returned (.bool (pairedAt l i)) ∧ Below w.heap.size w w' := by
 obtain ⟨b, o, ra, rc, e, x1, x2, x3⟩ := hv i hi
 subst e
 have HP : Hid (pairedAt l i = if (l.getD i default).k = 3 then decide (i + 1 < l.length) && decide ((l.getD (i + 1) default).k = 4) else if (l.getD i default).k = 4 then decide (0 < i) && decide ((l.getD (i - 1) default).k = 3) else true) := rfl
 have HV : Hid (∀ j, j < l.length → w.cell? ⟨b, o + j * 2, none⟩ = some (.int .i64 (l.getD j default).k)) := fun j hj => by
  obtain ⟨b', o', ra', rc', e', y1, y2, y3⟩ := hv j hj
  cases e'
  exact y1
 obtain ⟨k, hk⟩ : ∃ k, (l.getD i default).k = k := ⟨_, rfl⟩
 rw [hk] at x1 HP
 clear hk hv x2 x3
 obtain ⟨n, hn⟩ : ∃ n, l.length = n := ⟨_, rfl⟩
 rw [hn] at hl hi HP HV ⊢
 clear hn
 have i1 : (0 : Int) ≤ (i : Int) := by omega
 have i2 : (i : Int) < (n : Int) := by omega
 have hwi : IntKind.i64.wrap ((i : Int) + 1) = (i : Int) + 1 := by rw [wrap_is]; omega
 by_cases h3 : k = 3
 ·subst h3
  by_cases h4 : i + 1 < n
  ·have y1 := HV.out (i + 1) h4
   obtain ⟨k2, hk2⟩ : ∃ k, (l.getD (i + 1) default).k = k := ⟨_, rfl⟩
   rw [hk2] at y1 HP
   have h4' : (i : Int) + 1 < (n : Int) := by omega
   have hd : decide (k2 = 4) = (k2 == 4) := by rw [Bool.eq_iff_iff]; simp
   have HE : Hid (pairedAt l i = (k2 == 4)) := by show pairedAt l i = _; rw [HP.out, if_pos rfl, decide_eq_true h4, hd]; rfl
   clear HP hk2 hd
   go_enter Tryz.func93, Tryz.ntmps93
   go_wp2
   go_ret
   exact ⟨ret_bool HE.out.symm, by first | exact bR | exact bR.drew⟩
  ·have h4' : ¬ (i : Int) + 1 < (n : Int) := by omega
   have HE : Hid (pairedAt l i = false) := by show pairedAt l i = _; rw [HP.out, if_pos rfl, decide_eq_false h4]; rfl
   clear HP
   go_enter Tryz.func93, Tryz.ntmps93
   go_wp2
   go_ret
   exact ⟨ret_bool HE.out.symm, by first | exact bR | exact bR.drew⟩
 ·have h3' : (k == 3) = false := by simpa using h3
  by_cases h4 : k = 4
  ·subst h4
   by_cases h5 : 0 < i
   ·obtain ⟨j, rfl⟩ : ∃ j, i = j + 1 := ⟨i - 1, by omega⟩
    have y1 := HV.out j (by omega)
    have hj0 : (j + 1 : Nat) - 1 = j := by omega
    rw [hj0] at HP
    obtain ⟨k2, hk2⟩ : ∃ k, (l.getD j default).k = k := ⟨_, rfl⟩
    rw [hk2] at y1 HP
    have hd : decide (k2 = 3) = (k2 == 3) := by rw [Bool.eq_iff_iff]; simp
    have HE : Hid (pairedAt l (j + 1) = (k2 == 3)) := by show pairedAt l (j + 1) = _; rw [HP.out, if_neg (by decide), if_pos rfl, decide_eq_true h5, hd]; rfl
    have hj1 : (0 : Int) < ((j : Int) + 1) := by omega
    have hj2 : ((j : Int)) < (n : Int) := by omega
    have hj3 : (0 : Int) ≤ (j : Int) := by omega
    have hwj1 : IntKind.i64.wrap ((j : Int) + 1 - 1) = (j : Int) := by rw [wrap_is]; omega
    have hwj2 : IntKind.i64.wrap (j : Int) = (j : Int) := by rw [wrap_is]; omega
    clear HP hk2 hd
    go_enter Tryz.func93, Tryz.ntmps93
    go_wp2
    go_ret
    exact ⟨ret_bool HE.out.symm, by first | exact bR | exact bR.drew⟩
   ·have h5' : i = 0 := by omega
    subst h5'
    have HE : Hid (pairedAt l 0 = false) := by show pairedAt l 0 = _; rw [HP.out, if_neg (by decide), if_pos rfl, decide_eq_false h5]; rfl
    clear HP
    simp only [Nat.zero_mul, Nat.add_zero] at x1
    go_enter Tryz.func93, Tryz.ntmps93
    go_wp2
    go_ret
    exact ⟨ret_bool HE.out.symm, by first | exact bR | exact bR.drew⟩
  ·have h4' : (k == 4) = false := by simpa using h4
   have HE : Hid (pairedAt l i = true) := by show pairedAt l i = _; rw [HP.out, if_neg h3, if_neg h4]
   clear HP
   go_enter Tryz.func93, Tryz.ntmps93
   go_wp2
   go_ret
   exact ⟨ret_bool HE.out.symm, by first | exact bR | exact bR.drew⟩
theorem infoG : (Tryz.prog.info? 65).map (fun i => (i.zero, i.size, i.bytes)) = some (some (.agg #[.int .i64 0, .slice none 0 0]), 2, 32) := by kernel_rfl
def flatC (l : List (Int × Value)) : List Value := l.flatMap fun p => [.int .i64 p.1, p.2]
theorem flatC_snoc (l : List (Int × Value)) (n : Int) (x : Value) : flatC (l ++ [(n, x)]) = flatC l ++ [.int .i64 n, x] := by
 unfold flatC; rw [List.flatMap_append]; simp
theorem flatC_at (l : List (Int × Value)) (i : Nat) (hli : i < l.length) : (flatC l)[i * 2]? = some (.int .i64 (l.getD i (0, .bool false)).1) ∧ (flatC l)[i * 2 + 1]? = some (l.getD i (0, .bool false)).2 := by
 induction l generalizing i with
 | nil => exact absurd hli (Nat.not_lt_zero i)
 | cons p r ih =>
  have e : flatC (p :: r) = .int .i64 p.1 :: p.2 :: flatC r := rfl
  rw [e]
  cases i with
  | zero => exact ⟨rfl, rfl⟩
  | succ i =>
   have := ih i (by simpa using hli)
   rw [show (i + 1) * 2 = i * 2 + 1 + 1 by omega]
   simpa using this
end Go.Proofs.YtbfbgdinhiglaaaGreat.ch
namespace Go.Proofs.YtbfbgdinhiglaaaGreat.ch
open Go.ChangeShapes Go.WideShapes Go.ChangeAt Go.RowKit Go.Maps Go.WideMaps
open vl
set_option linter.unusedVariables false
set_option linter.unusedSimpArgs false
end Go.Proofs.YtbfbgdinhiglaaaGreat.ch
