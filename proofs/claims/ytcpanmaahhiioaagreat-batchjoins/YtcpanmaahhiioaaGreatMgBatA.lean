/- Several texts in one: BatPure, BatTold, BatMeet, BatNulls, BatPerm, BatCheck, BatRows, BatOpen, BatLift. -/
import Derived.Test.YtcpanmaahhiioaaGreatMgPlnG
import Derived.Laws.MakeOwn
import Derived.Test.YtcpanmaahhiioaaGreatMgPlnE
import Derived.Test.YtcpanmaahhiioaaGreatMgValB
import Derived.ChangeSame
import Derived.SizedLaws
/- Rows with their times, in memory; what keeps rows from being joined (E3). -/
namespace Go.Proofs.YtcpanmaahhiioaaGreat.bt
open Go.ChangeShapes Go.WideShapes Go.ChangeAt Go.RowKit
open vl pl
set_option linter.unusedVariables false
set_option linter.unusedSimpArgs false
/-- a row with its time -/
structure Stm where
  t : Int
  r : List Cel
instance : Inhabited Stm := ⟨⟨0, []⟩⟩
/-- a slice that begins at a has these rows with their times -/
def stmsAt (w : World) (a : Option Addr) (l : List Stm) : Prop :=
  ∀ i, i < l.length → ∃ b off ra rc, a = some ⟨b, off, none⟩ ∧ w.cell? ⟨b, off + i * 2, none⟩ = some (.int .i64 (l.getD i default).t) ∧ w.cell? ⟨b, off + i * 2 + 1, none⟩ = some (.slice ra (l.getD i default).r.length rc) ∧ vl.rowAt w ra (l.getD i default).r
theorem stmsAt_below {w w' : World} {a : Option Addr} {l : List Stm} (h : stmsAt w a l) (hb : Below w.heap.size w w') : stmsAt w' a l := by
  intro i hi
  obtain ⟨b, o, ra, rc, e, x, y, z⟩ := h i hi
  exact ⟨b, o, ra, rc, e, cell_later hb x, cell_later hb y, rowAt_below z hb⟩
def wfStms (l : List Stm) : Prop := ∀ s ∈ l, wfRow s.r ∧ s.r.length ≤ 9223372036854775807 ∧ i64 s.t
theorem wfs_at {l : List Stm} (h : wfStms l) (k : Nat) (hk : k < l.length) : wfRow (l.getD k default).r ∧ (l.getD k default).r.length ≤ 9223372036854775807 ∧ i64 (l.getD k default).t := h _ (getD_mem hk)
/-- do all times fit? -/
def fitsB (l : List Stm) : Bool := allB l.length (fun i => tm.fitB (l.getD i default).t)
/-- what is wrong with the first row that may not come in -/
def firstErr (p : Pln) (side : Int) : List Stm → Int
  | [] => 0
  | s :: l => if rErr p side s.r = 0 then firstErr p side l else rErr p side s.r
theorem firstErr_drop (p : Pln) (side : Int) (l : List Stm) (k : Nat) (h : ∀ i, i < k → rErr p side (l.getD i default).r = 0) : firstErr p side l = firstErr p side (l.drop k) := by
  induction k generalizing l with
  | zero => rfl
  | succ k ih =>
    cases l with
    | nil => rfl
    | cons s l =>
      have h0 : rErr p side s.r = 0 := h 0 (by omega)
      rw [firstErr, if_pos h0, List.drop_succ_cons]
      exact ih l (fun i hi => h (i + 1) (by omega))
theorem drop_stm (l : List Stm) (k : Nat) (h : k < l.length) : l.drop k = l.getD k default :: l.drop (k + 1) := by
  rw [List.drop_eq_getElem_cons h]; simp [List.getD_eq_getElem?_getD, h]
theorem firstErr_at {p : Pln} {side : Int} {l : List Stm} {k : Nat} (hk : k < l.length) (h : ∀ i, i < k → rErr p side (l.getD i default).r = 0) (hne : rErr p side (l.getD k default).r ≠ 0) : firstErr p side l = rErr p side (l.getD k default).r := by
  rw [firstErr_drop p side l k h, drop_stm l k hk, firstErr, if_neg hne]
theorem firstErr_end {p : Pln} {side : Int} {l : List Stm} {k : Nat} (hk : l.length ≤ k) (h : ∀ i, i < k → rErr p side (l.getD i default).r = 0) : firstErr p side l = 0 := by
  rw [firstErr_drop p side l k h, List.drop_of_length_le hk]; rfl
theorem firstErr_ok {p : Pln} {side : Int} {l : List Stm} (h : firstErr p side l = 0) : ∀ s ∈ l, rErr p side s.r = 0 := by
  induction l with
  | nil => intro s hs; cases hs
  | cons a l ih =>
    rw [firstErr] at h
    split at h
    · rename_i h0
      intro s hs
      rcases List.mem_cons.1 hs with rfl | hs
      · exact h0
      · exact ih h s hs
    · rename_i h0; exact absurd h h0
/-- E3: what keeps rows from being joined -/
def batchErr (p : Pln) (L R : List Stm) : Int :=
  if planErr p ≠ 0 then planErr p else if 120 < L.length + R.length then 2 else if fitsB L = false ∨ fitsB R = false then 3 else if firstErr p 1 L ≠ 0 then firstErr p 1 L else firstErr p 2 R
end Go.Proofs.YtcpanmaahhiioaaGreat.bt

/- What a join tells, row by row (E1, E2): no Go in sight. -/
namespace Go.Proofs.YtcpanmaahhiioaaGreat.bt
open vl pl
set_option linter.unusedVariables false
set_option linter.unusedSimpArgs false
/-- so many Nulls -/
def nullRow (n : Nat) : List Cel := List.replicate n ⟨0, 0, ⟨#[]⟩⟩
/-- E1: do the times of a left and a right row meet? (of no Temporal) -/
def meetT (p : Pln) (l r : Int) : Bool := if p.kind = 1 then tm.meetB l r p.low p.high else decide (tm.start l p.size = tm.start r p.size)
/-- has the right row at k this key? -/
def atKey (p : Pln) (R : List Stm) (key : ByteArray) (k : Nat) : Bool := hasB p 2 (R.getD k default).r && decide (keyOfS p 2 (R.getD k default).r = key)
def placesOf (p : Pln) (R : List Stm) (key : ByteArray) : List Nat := (List.range R.length).filter (atKey p R key)
/-- E2: the version, so far -/
def vstep (l : Int) (R : List Stm) (best : Option Nat) (k : Nat) : Option Nat :=
  if l < (R.getD k default).t then best else
    match best with
    | none => some k
    | some b => if (R.getD b default).t ≤ (R.getD k default).t then some k else some b
def versionOf (l : Int) (R : List Stm) (ks : List Nat) : Option Nat := ks.foldl (vstep l R) none
/-- where the right rows stand that a left row is joined with -/
def partners (p : Pln) (l : Stm) (R : List Stm) : List Nat :=
  if hasB p 1 l.r = false then [] else
    if p.kind = 3 then (versionOf l.t R (placesOf p R (keyOfS p 1 l.r))).toList else (placesOf p R (keyOfS p 1 l.r)).filter (fun k => meetT p l.t (R.getD k default).t)
def keepsL (p : Pln) : Bool := decide (p.mode = 2 ∨ p.mode = 4)
def keepsR (p : Pln) : Bool := decide (p.mode = 3 ∨ p.mode = 4)
/-- what a left row brings -/
def toldL (p : Pln) (R : List Stm) (l : Stm) : List (List Cel) :=
  (partners p l R).map (fun k => l.r ++ (R.getD k default).r) ++ (if partners p l R = [] ∧ keepsL p = true then [l.r ++ nullRow p.right.length] else [])
def metB (p : Pln) (L R : List Stm) (k : Nat) : Bool := L.any fun l => (partners p l R).contains k
def toldR (p : Pln) (L R : List Stm) (k : Nat) : List (List Cel) := if metB p L R k = false ∧ keepsR p = true then [nullRow p.left.length ++ (R.getD k default).r] else []
/-- all rows that are told, in order -/
def told (p : Pln) (L R : List Stm) : List (List Cel) := L.flatMap (toldL p R) ++ (List.range R.length).flatMap (toldR p L R)

theorem foldl_filter {α β : Type} (f : β → α → β) (q : α → Bool) (l : List α) (b : β) : (l.filter q).foldl f b = l.foldl (fun b a => if q a then f b a else b) b := by
  induction l generalizing b with
  | nil => rfl
  | cons a l ih =>
    rw [List.filter_cons, List.foldl_cons]
    split
    · rw [List.foldl_cons, ih]
    · exact ih b
theorem version_mem {l : Int} {R : List Stm} {ks : List Nat} {k : Nat} (h : versionOf l R ks = some k) : k ∈ ks := by
  unfold versionOf at h
  have gen : ∀ (ks : List Nat) (b : Option Nat), ks.foldl (vstep l R) b = some k → k ∈ ks ∨ b = some k := by
    intro ks
    induction ks with
    | nil => intro b h; exact .inr h
    | cons a ks ih =>
      intro b h
      rw [List.foldl_cons] at h
      rcases ih _ h with h1 | h1
      · exact .inl (List.mem_cons_of_mem _ h1)
      · unfold vstep at h1
        split at h1
        · exact .inr h1
        · split at h1
          · cases h1; exact .inl (List.mem_cons_self ..)
          · split at h1
            · cases h1; exact .inl (List.mem_cons_self ..)
            · exact .inr h1
  rcases gen ks none h with h1 | h1
  · exact h1
  · cases h1
theorem places_lt {p : Pln} {R : List Stm} {key : ByteArray} {k : Nat} (h : k ∈ placesOf p R key) : k < R.length ∧ atKey p R key k = true := by
  unfold placesOf at h
  have := List.mem_filter.1 h
  exact ⟨List.mem_range.1 this.1, this.2⟩
theorem partners_lt {p : Pln} {l : Stm} {R : List Stm} {k : Nat} (h : k ∈ partners p l R) : k < R.length := by
  unfold partners at h
  split at h
  · cases h
  · split at h
    · have hm : versionOf l.t R (placesOf p R (keyOfS p 1 l.r)) = some k := by simpa using h
      exact (places_lt (version_mem hm)).1
    · exact (places_lt (List.mem_filter.1 h).1).1
/-- as the document goes through the right rows: is the one at k a partner? -/
def partnerB (p : Pln) (l : Stm) (R : List Stm) (k : Nat) : Bool :=
  if p.kind = 3 then decide (hasB p 1 l.r = true ∧ versionOf l.t R (placesOf p R (keyOfS p 1 l.r)) = some k) else hasB p 1 l.r && (atKey p R (keyOfS p 1 l.r) k && meetT p l.t (R.getD k default).t)
theorem filter_one (n k : Nat) (h : k < n) : (List.range n).filter (fun j => decide (some k = some j)) = [k] := by
  have e : (fun j => decide (some k = some j)) = fun j => j == k := by
    funext j
    rw [Bool.eq_iff_iff]
    simp
    exact ⟨fun h => h.symm, fun h => h.symm⟩
  rw [e]
  induction n with
  | zero => omega
  | succ n ih =>
    rw [List.range_succ, List.filter_append]
    by_cases hk : k = n
    · subst hk
      have h0 : (List.range k).filter (fun j => j == k) = [] := by
        rw [List.filter_eq_nil_iff]
        intro j hj
        have := List.mem_range.1 hj
        simp; omega
      rw [h0]; simp
    · rw [ih (by omega)]
      have : ¬ n = k := fun e => hk e.symm
      simp [this]
theorem partners_filter (p : Pln) (l : Stm) (R : List Stm) : partners p l R = (List.range R.length).filter (partnerB p l R) := by
  unfold partners partnerB
  cases hb : hasB p 1 l.r with
  | false =>
    rw [if_pos rfl]
    symm
    rw [List.filter_eq_nil_iff]
    intro k _
    split <;> simp
  | true =>
    rw [if_neg (by decide)]
    split
    · cases hv : versionOf l.t R (placesOf p R (keyOfS p 1 l.r)) with
      | none =>
        symm
        simp
      | some k =>
        have hk := (places_lt (version_mem hv)).1
        have := filter_one R.length k hk
        simpa using this.symm
    · unfold placesOf
      rw [List.filter_filter]
      congr 1
      funext k
      rw [Bool.true_and, Bool.and_comm]
end Go.Proofs.YtcpanmaahhiioaaGreat.bt

/- Do the times of a left and a right row meet; which modes keep rows that meet none. -/
namespace Go.Proofs.YtcpanmaahhiioaaGreat.bt
open Go.ChangeShapes Go.WideShapes Go.ChangeAt Go.RowKit
open vl pl
set_option linter.unusedVariables false
set_option linter.unusedSimpArgs false
def keepsB (m s : Int) : Bool := if m = 2 then s == 1 else if m = 3 then s == 2 else m == 4
theorem keeps_any (m s : Int) (w : World) :
    Calls Tryz.prog 77 #[.int .i64 m, .int .i64 s] w fun e w' => e = .returned (.bool (keepsB m s)) ∧ w' = w := by
  unfold keepsB
  by_cases h2 : m = 2
  · subst h2
    rw [if_pos rfl]
    go_enter Tryz.func77, Tryz.ntmps77
    go_wp2
    go_ret
    exact ⟨rfl, rfl⟩
  · rw [if_neg h2]
    have k2 : (m == 2) = false := by simpa using h2
    clear h2
    by_cases h3 : m = 3
    · subst h3
      rw [if_pos rfl]
      go_enter Tryz.func77, Tryz.ntmps77
      go_wp2
      go_ret
      exact ⟨rfl, rfl⟩
    · rw [if_neg h3]
      have k3 : (m == 3) = false := by simpa using h3
      clear h3
      go_enter Tryz.func77, Tryz.ntmps77
      go_wp2
      go_ret
      exact ⟨rfl, rfl⟩
theorem keepsL_eq (p : Pln) : keepsB p.mode 1 = keepsL p := by
  unfold keepsB keepsL
  by_cases h2 : p.mode = 2
  · simp [h2]
  · by_cases h3 : p.mode = 3
    · simp [h3]
    · rw [if_neg h2, if_neg h3, Bool.eq_iff_iff]; simp [h2]
theorem keepsR_eq (p : Pln) : keepsB p.mode 2 = keepsR p := by
  unfold keepsB keepsR
  by_cases h2 : p.mode = 2
  · simp [h2]
  · by_cases h3 : p.mode = 3
    · simp [h3]
    · rw [if_neg h2, if_neg h3, Bool.eq_iff_iff]; simp [h3]
theorem keepsL_any (p : Pln) (w : World) :
    Calls Tryz.prog 77 #[.int .i64 p.mode, .int .i64 1] w fun e w' => e = .returned (.bool (keepsL p)) ∧ w' = w := by
  rw [← keepsL_eq]; exact keeps_any _ _ w
theorem keepsR_any (p : Pln) (w : World) :
    Calls Tryz.prog 77 #[.int .i64 p.mode, .int .i64 2] w fun e w' => e = .returned (.bool (keepsR p)) ∧ w' = w := by
  rw [← keepsR_eq]; exact keeps_any _ _ w
theorem meets_b (l r lo hi : Int) (w : World) (h : tm.fit4 l r lo hi = true) (hle : ¬ hi < lo) :
    Calls Tryz.prog 148 #[.int .i64 l, .int .i64 r, .int .i64 lo, .int .i64 hi] w fun e w' => e = .returned (.tuple #[.bool (tm.meetB l r lo hi), .int .i64 0]) ∧ Below w.heap.size w w' := by
  obtain ⟨⟨b1, b2⟩, ⟨b3, b4⟩, ⟨b5, b6⟩, ⟨b7, b8⟩⟩ := tm.fit4_bd h
  by_cases h1 : l + lo ≤ r
  · by_cases h2 : r ≤ l + hi
    · have hf : tm.meetB l r lo hi = true := by unfold tm.meetB; exact decide_eq_true ⟨by omega, by omega⟩
      rw [hf]
      go_enter Tryz.func148, Tryz.ntmps148
      go_wp2_with (go_at_call 176; refine (tm.allFit4 _ l r lo hi _ (by go_simp) (by go_simp) (by go_simp) (by go_simp)).mono ?_; rintro e w' ⟨rfl, hw⟩; subst hw)
      go_ret2
      refine ⟨rfl, ?_⟩
      repeat (first | exact Below.refl _ _ | apply Below.drew | (refine Below.alloc ?_ (by simp <;> omega) _))
    · have hf : tm.meetB l r lo hi = false := by unfold tm.meetB; exact decide_eq_false (by omega)
      have hd : decide (r ≤ l + hi) = false := decide_eq_false h2
      rw [hf]
      go_enter Tryz.func148, Tryz.ntmps148
      go_wp2_with (go_at_call 176; refine (tm.allFit4 _ l r lo hi _ (by go_simp) (by go_simp) (by go_simp) (by go_simp)).mono ?_; rintro e w' ⟨rfl, hw⟩; subst hw)
      go_ret2
      refine ⟨rfl, ?_⟩
      repeat (first | exact Below.refl _ _ | apply Below.drew | (refine Below.alloc ?_ (by simp <;> omega) _))
  · have hf : tm.meetB l r lo hi = false := by unfold tm.meetB; exact decide_eq_false (by omega)
    rw [hf]
    go_enter Tryz.func148, Tryz.ntmps148
    go_wp2_with (go_at_call 176; refine (tm.allFit4 _ l r lo hi _ (by go_simp) (by go_simp) (by go_simp) (by go_simp)).mono ?_; rintro e w' ⟨rfl, hw⟩; subst hw)
    go_ret2
    refine ⟨rfl, ?_⟩
    repeat (first | exact Below.refl _ _ | apply Below.drew | (refine Below.alloc ?_ (by simp <;> omega) _))
set_option maxHeartbeats 1000000 in
theorem timesMeet_any (p : Pln) (x : PA) (l r : Int) (w : World) (h0 : planErr p = 0) (hk : p.kind ≠ 3) (hl : tm.fitB l = true) (hr : tm.fitB r = true) :
    Calls Tryz.prog 113 #[planV p x, .int .i64 l, .int .i64 r] w fun e w' => e = .returned (.bool (meetT p l r)) ∧ Below w.heap.size w w' := by
  obtain ⟨k1, k2, _, _, k5⟩ := planErr_ok h0
  by_cases e1 : p.kind = 1
  · have hm : meetT p l r = tm.meetB l r p.low p.high := by unfold meetT; rw [if_pos e1]
    have f1 : fit p.low ∧ fit p.high := by have := k2.1; rw [if_pos e1] at this; exact this
    have K : Hid (∀ w1, Calls Tryz.prog 148 #[.int .i64 l, .int .i64 r, .int .i64 p.low, .int .i64 p.high] w1 fun e w' => e = .returned (.tuple #[.bool (tm.meetB l r p.low p.high), .int .i64 0]) ∧ Below w1.heap.size w1 w') := fun w1 =>
      meets_b l r p.low p.high w1 (by unfold tm.fit4; rw [hl, hr, (tm.fit_iff _).2 f1.1, (tm.fit_iff _).2 f1.2]; rfl) (by have := k5.1; omega)
    rw [hm]
    clear hm f1 k1 k2 k5 h0 hk
    obtain ⟨z, hz⟩ : ∃ z, tm.meetB l r p.low p.high = z := ⟨_, rfl⟩
    rw [hz] at K ⊢
    clear hz
    obtain ⟨kind, mode, low, high, size, limit, left, right, lkeys, rkeys, grouped, group, aggs⟩ := p
    obtain ⟨la, lc, rr, rc, lk, lkc, rk, rkc, g, gc, ag, ac⟩ := x
    unfold planV
    dsimp only at e1 K ⊢
    subst e1
    go_enter Tryz.func113, Tryz.ntmps113
    go_wp2_with (go_at_call 148; refine (K.out _).mono ?_; rintro e w1 ⟨rfl, hb1⟩)
    go_ret
    exact ⟨rfl, ((Below.refl _ _).alloc (Nat.le_refl _) _).trans (hb1.mono (by simp))⟩
  · have hk2 : p.kind = 2 := by have := k1.1; omega
    have hm : meetT p l r = decide (tm.start l p.size = tm.start r p.size) := by unfold meetT; rw [if_neg e1]
    have f1 : 1 ≤ p.size ∧ p.size ≤ 1099511627776 := by have := k2.2.1; rw [if_pos hk2] at this; exact this
    have KL : Hid (∀ w1, Calls Tryz.prog 149 #[.int .i64 l, .int .i64 p.size] w1 fun e w' => e = .returned (.tuple #[.int .i64 (tm.start l p.size), .int .i64 (tm.start l p.size + p.size), .int .i64 0]) ∧ w' = w1) := fun w1 => tm.window_yes l p.size w1 hl f1.1 f1.2
    have KR : Hid (∀ w1, Calls Tryz.prog 149 #[.int .i64 r, .int .i64 p.size] w1 fun e w' => e = .returned (.tuple #[.int .i64 (tm.start r p.size), .int .i64 (tm.start r p.size + p.size), .int .i64 0]) ∧ w' = w1) := fun w1 => tm.window_yes r p.size w1 hr f1.1 f1.2
    rw [hm]
    clear hm f1 k1 k2 k5 h0 hk e1
    obtain ⟨a, ha⟩ : ∃ z, tm.start l p.size = z := ⟨_, rfl⟩
    obtain ⟨b, hb⟩ : ∃ z, tm.start r p.size = z := ⟨_, rfl⟩
    rw [ha] at KL
    rw [hb] at KR
    rw [ha, hb]
    clear ha hb
    obtain ⟨a2, ha⟩ : ∃ z, a + p.size = z := ⟨_, rfl⟩
    obtain ⟨b2, hb⟩ : ∃ z, b + p.size = z := ⟨_, rfl⟩
    rw [ha] at KL
    rw [hb] at KR
    clear ha hb
    have HX : Hid ((a == b) = decide (a = b)) := by show (a == b) = _; by_cases h : a = b <;> simp [h]
    obtain ⟨z, hz⟩ : ∃ z, decide (a = b) = z := ⟨_, rfl⟩
    rw [hz] at HX ⊢
    clear hz
    have hx : (a == b) = z := HX.out
    clear HX
    obtain ⟨kind, mode, low, high, size, limit, left, right, lkeys, rkeys, grouped, group, aggs⟩ := p
    obtain ⟨la, lc, rr, rc, lk, lkc, rk, rkc, g, gc, ag, ac⟩ := x
    unfold planV
    dsimp only at hk2 KL KR ⊢
    subst hk2
    go_enter Tryz.func113, Tryz.ntmps113
    go_wp2_with fail
    refine (KL.out _).mono ?_
    rintro e w1 ⟨rfl, hw1⟩
    subst hw1
    go_wp2_with fail
    refine (KR.out _).mono ?_
    rintro e w1 ⟨rfl, hw1⟩
    subst hw1
    go_wp2
    go_ret
    exact ⟨rfl, (Below.refl _ _).alloc (Nat.le_refl _) _⟩
end Go.Proofs.YtcpanmaahhiioaaGreat.bt

/- So many Nulls. -/
namespace Go.Proofs.YtcpanmaahhiioaaGreat.bt
open Go.ChangeShapes Go.WideShapes Go.ChangeAt Go.RowKit
open vl pl
set_option linter.unusedVariables false
set_option linter.unusedSimpArgs false
theorem infoV : (Tryz.prog.info? 62).map (fun i => (i.zero, i.size, i.bytes)) = some (some (.agg #[.int .i64 0, .int .i64 0, .string ⟨#[]⟩]), 3, 32) := by kernel_rfl
theorem make_row (n : Nat) (w : World) (hn : n ≤ 400) :
    (Instr.makeSlice 43 (.int .i64 (n : Int)) (.int .i64 (n : Int))).run Tryz.prog w = .ok (.slice (some ⟨w.heap.size, 0, none⟩) n n) (w.alloc (.cells (madeCells #[.int .i64 0, .int .i64 0, .string ⟨#[]⟩] (n * 3)) 62)) := by
  have hI := infoV
  cases hi : Tryz.prog.info? 62 with
  | none => rw [hi] at hI; cases hI
  | some i =>
    rw [hi] at hI
    simp only [Option.map_some, Option.some.injEq, Prod.mk.injEq] at hI
    obtain ⟨hz, hs, hb⟩ := hI
    have := run_makeSlice (P := Tryz.prog) (w := w) 43 62 i _ Tryz.underlying43 hi hz .i64 .i64 n n (by omega) (Int.le_refl _) (by rw [hs]; simp; omega) (by rw [hb]; omega) (by omega)
    rw [hs, Int.toNat_natCast] at this
    exact this
theorem null_row (n : Nat) (w : World) (h1 : 1 ≤ n) (h4 : n ≤ 4) : vl.rowAt (w.alloc (.cells (madeCells #[.int .i64 0, .int .i64 0, .string ⟨#[]⟩] (n * 3)) 62)) (some ⟨w.heap.size, 0, none⟩) (nullRow n) := by
  have m1 : madeCells #[.int .i64 0, .int .i64 0, .string ⟨#[]⟩] (1 * 3) = #[.int .i64 0, .int .i64 0, .string ⟨#[]⟩] := by kernel_rfl
  have m2 : madeCells #[.int .i64 0, .int .i64 0, .string ⟨#[]⟩] (2 * 3) = #[.int .i64 0, .int .i64 0, .string ⟨#[]⟩, .int .i64 0, .int .i64 0, .string ⟨#[]⟩] := by kernel_rfl
  have m3 : madeCells #[.int .i64 0, .int .i64 0, .string ⟨#[]⟩] (3 * 3) = #[.int .i64 0, .int .i64 0, .string ⟨#[]⟩, .int .i64 0, .int .i64 0, .string ⟨#[]⟩, .int .i64 0, .int .i64 0, .string ⟨#[]⟩] := by kernel_rfl
  have m4 : madeCells #[.int .i64 0, .int .i64 0, .string ⟨#[]⟩] (4 * 3) = #[.int .i64 0, .int .i64 0, .string ⟨#[]⟩, .int .i64 0, .int .i64 0, .string ⟨#[]⟩, .int .i64 0, .int .i64 0, .string ⟨#[]⟩, .int .i64 0, .int .i64 0, .string ⟨#[]⟩] := by kernel_rfl
  have hn : n = 1 ∨ n = 2 ∨ n = 3 ∨ n = 4 := by omega
  intro i hi
  have hi' : i < n := by simpa [nullRow] using hi
  refine ⟨_, _, rfl, ?_⟩
  have e : (nullRow n).getD i default = ⟨0, 0, ⟨#[]⟩⟩ := by simp [nullRow, List.getD_eq_getElem?_getD, hi']
  rw [e]
  have hj : i = 0 ∨ i = 1 ∨ i = 2 ∨ i = 3 := by omega
  rcases hn with rfl | rfl | rfl | rfl <;> rcases hj with rfl | rfl | rfl | rfl <;> first | (exact absurd hi' (by decide)) | ((first | rw [m1] | rw [m2] | rw [m3] | rw [m4]); clear m1 m2 m3 m4; refine ⟨?_, ?_, ?_⟩ <;> go_simp)
set_option maxRecDepth 10000 in
set_option maxHeartbeats 1000000 in
theorem nulls_any (p : Pln) (x : PA) (side : Int) (w : World) (h1 : 1 ≤ (colsOf p side).length) (h4 : (colsOf p side).length ≤ 4) :
    Calls Tryz.prog 78 #[planV p x, .int .i64 side] w fun e w' => (∃ gb, e = .returned (.slice (some ⟨gb, 0, none⟩) (colsOf p side).length (colsOf p side).length) ∧ w.heap.size ≤ gb ∧ vl.rowAt w' (some ⟨gb, 0, none⟩) (nullRow (colsOf p side).length)) ∧ Below w.heap.size w w' := by
  have K1 : Hid (∀ w1, Calls Tryz.prog 114 #[planV p x, .int .i64 side] w1 fun e w' => e = .returned (.slice (cA x side) (colsOf p side).length (cC x side)) ∧ Below w1.heap.size w1 w') := fun w1 => columns_any p x side w1
  have HC : Hid (∀ w1, vl.rowAt (World.alloc w1 (.cells (madeCells #[.int .i64 0, .int .i64 0, .string ⟨#[]⟩] ((colsOf p side).length * 3)) 62)) (some ⟨w1.heap.size, 0, none⟩) (nullRow (colsOf p side).length)) := fun w1 => null_row _ w1 h1 h4
  have HM : Hid (∀ w1, (Instr.makeSlice 43 (.int .i64 ((colsOf p side).length : Int)) (.int .i64 ((colsOf p side).length : Int))).run Tryz.prog w1 = .ok (.slice (some ⟨w1.heap.size, 0, none⟩) (colsOf p side).length (colsOf p side).length) (w1.alloc (.cells (madeCells #[.int .i64 0, .int .i64 0, .string ⟨#[]⟩] ((colsOf p side).length * 3)) 62))) := fun w1 => make_row _ w1 (by omega)
  obtain ⟨n, hn⟩ : ∃ n, (colsOf p side).length = n := ⟨_, rfl⟩
  obtain ⟨ca, hca⟩ : ∃ z, cA x side = z := ⟨_, rfl⟩
  obtain ⟨cc, hcc⟩ : ∃ z, cC x side = z := ⟨_, rfl⟩
  rw [hn] at HC HM ⊢
  rw [hn, hca, hcc] at K1
  clear hn hca hcc h1 h4
  obtain ⟨kind, mode, low, high, size, limit, left, right, lkeys, rkeys, grouped, group, aggs⟩ := p
  obtain ⟨l, lc, rr, rc, lk, lkc, rk, rkc, g, gc, a, ac⟩ := x
  unfold planV at K1 ⊢
  dsimp only at K1 ⊢
  obtain ⟨n6, h6⟩ : ∃ n, left.length = n := ⟨_, rfl⟩
  obtain ⟨n7, h7⟩ : ∃ n, right.length = n := ⟨_, rfl⟩
  obtain ⟨n8, h8⟩ : ∃ n, lkeys.length = n := ⟨_, rfl⟩
  obtain ⟨n9, h9⟩ : ∃ n, rkeys.length = n := ⟨_, rfl⟩
  obtain ⟨n11, h11⟩ : ∃ n, group.length = n := ⟨_, rfl⟩
  obtain ⟨n12, h12⟩ : ∃ n, aggs.length = n := ⟨_, rfl⟩
  rw [h6, h7, h8, h9, h11, h12] at K1
  rw [h6, h7, h8, h9, h11, h12]
  clear h6 h7 h8 h9 h11 h12
  go_enter Tryz.func78, Tryz.ntmps78
  go_wp2_with fail
  refine (K1.out _).mono ?_
  rintro e w1 ⟨rfl, hb1⟩
  have hba := ((Below.refl _ _).alloc (Nat.le_refl _) _).trans (hb1.mono (by simp))
  have hm := HM.out w1
  have hs := hba.size
  go_wp2
  go_ret
  exact ⟨⟨_, rfl, hs, HC.out w1⟩, hba.alloc hs _⟩
end Go.Proofs.YtcpanmaahhiioaaGreat.bt

/- What a join tells, as rows: no order of the right rows is in it. No Go in sight. -/
namespace Go.Proofs.YtcpanmaahhiioaaGreat.bt
open vl pl
set_option linter.unusedVariables false
set_option linter.unusedSimpArgs false
/-- have two rows, one of each side, the same key? -/
def sameKey (p : Pln) (l s : Stm) : Bool := hasB p 2 s.r && decide (keyOfS p 2 s.r = keyOfS p 1 l.r)
/-- E1: do two rows meet? -/
def pairB (p : Pln) (l s : Stm) : Bool := hasB p 1 l.r && (sameKey p l s && meetT p l.t s.t)
theorem range_filter (R : List Stm) (q : Stm → Bool) : ((List.range R.length).filter (fun k => q (R.getD k default))).map (fun k => R.getD k default) = R.filter q := by
  have e : ∀ (R : List Stm), (List.range R.length).map (fun k => R.getD k default) = R := by
    intro R
    apply List.ext_getElem
    · simp
    · intro i h1 h2
      simp [List.getD_eq_getElem?_getD, h2]
  have h : ((List.range R.length).map (fun k => R.getD k default)).filter q = R.filter q := by rw [e R]
  rw [← h, List.filter_map]; rfl
theorem partners_rows {p : Pln} (hk : p.kind ≠ 3) (l : Stm) (R : List Stm) : (partners p l R).map (fun k => R.getD k default) = R.filter (pairB p l) := by
  rw [partners_filter, ← range_filter R (pairB p l)]
  congr 1
  apply List.filter_congr
  intro k _
  unfold partnerB pairB sameKey atKey
  rw [if_neg hk]
theorem partners_nil {p : Pln} (hk : p.kind ≠ 3) (l : Stm) (R : List Stm) : partners p l R = [] ↔ R.filter (pairB p l) = [] := by
  rw [← partners_rows hk l R, List.map_eq_nil_iff]
theorem met_pair {p : Pln} (hk : p.kind ≠ 3) (L R : List Stm) (k : Nat) (h : k < R.length) : metB p L R k = L.any (fun l => pairB p l (R.getD k default)) := by
  unfold metB
  congr 1
  funext l
  rw [partners_filter, Bool.eq_iff_iff]
  simp only [List.contains_iff_mem, List.mem_filter, List.mem_range]
  unfold partnerB pairB sameKey atKey
  rw [if_neg hk]
  exact ⟨fun h => h.2, fun h' => ⟨h, h'⟩⟩
/-- what a left row brings, of rows that meet -/
def bringL (p : Pln) (R : List Stm) (l : Stm) : List (List Cel) :=
  (R.filter (pairB p l)).map (fun s => l.r ++ s.r) ++ (if R.filter (pairB p l) = [] ∧ keepsL p = true then [l.r ++ nullRow p.right.length] else [])
def bringR (p : Pln) (L R : List Stm) : List (List Cel) := if keepsR p = true then (R.filter (fun s => !L.any (fun l => pairB p l s))).map (fun s => nullRow p.left.length ++ s.r) else []
theorem toldL_pair {p : Pln} (hk : p.kind ≠ 3) (R : List Stm) (l : Stm) : toldL p R l = bringL p R l := by
  unfold toldL bringL
  have h := partners_rows hk l R
  have hn := partners_nil hk l R
  rw [← h, List.map_map]
  congr 1
  by_cases h1 : partners p l R = []
  · rw [h1]; simp
  · rw [if_neg (fun h => h1 h.1), if_neg (fun h2 => h1 (List.map_eq_nil_iff.1 h2.1))]
theorem toldR_pair {p : Pln} (hk : p.kind ≠ 3) (L R : List Stm) : (List.range R.length).flatMap (toldR p L R) = bringR p L R := by
  unfold bringR
  cases hr : keepsR p with
  | false =>
    rw [if_neg (by decide)]
    rw [List.flatMap_eq_nil_iff]
    intro k _
    unfold toldR
    rw [if_neg (fun h => by rw [hr] at h; exact absurd h.2 (by decide))]
  | true =>
    rw [if_pos rfl, ← range_filter R (fun s => !L.any (fun l => pairB p l s)), List.map_map]
    have gen : ∀ (ks : List Nat), (∀ k ∈ ks, k < R.length) → ks.flatMap (toldR p L R) = (ks.filter (fun k => !L.any (fun l => pairB p l (R.getD k default)))).map ((fun s : Stm => nullRow p.left.length ++ s.r) ∘ fun k => R.getD k default) := by
      intro ks
      induction ks with
      | nil => intro _; rfl
      | cons k ks ih =>
        intro hks
        have hk' := hks k (List.mem_cons_self ..)
        rw [List.flatMap_cons, ih (fun j hj => hks j (List.mem_cons_of_mem _ hj)), List.filter_cons]
        unfold toldR
        rw [met_pair hk L R k hk', hr]
        cases hm : L.any (fun l => pairB p l (R.getD k default)) with
        | true => simp
        | false => simp
    exact gen _ (fun k hk => List.mem_range.1 hk)
theorem told_pair {p : Pln} (hk : p.kind ≠ 3) (L R : List Stm) : told p L R = L.flatMap (bringL p R) ++ bringR p L R := by
  unfold told
  rw [toldR_pair hk L R]
  congr 1
  congr 1
  funext l
  exact toldL_pair hk R l
/-- E5: whatever the order, the same rows are told -/
theorem bringL_perm {p : Pln} {R R' : List Stm} (h : R.Perm R') (l : Stm) : (bringL p R l).Perm (bringL p R' l) := by
  unfold bringL
  have hf : (R.filter (pairB p l)).Perm (R'.filter (pairB p l)) := h.filter _
  refine (hf.map _).append ?_
  by_cases h1 : R.filter (pairB p l) = []
  · have h2 : R'.filter (pairB p l) = [] := by rw [h1] at hf; exact hf.symm.eq_nil
    rw [h1, h2]
  · have h2 : R'.filter (pairB p l) ≠ [] := fun e => h1 (by rw [e] at hf; exact hf.eq_nil)
    rw [if_neg (fun h => h1 h.1), if_neg (fun h => h2 h.1)]
theorem any_perm {α : Type} {l l' : List α} (h : l.Perm l') (q : α → Bool) : l.any q = l'.any q := by
  rw [Bool.eq_iff_iff, List.any_eq_true, List.any_eq_true]
  exact ⟨fun ⟨x, hx, hq⟩ => ⟨x, h.mem_iff.1 hx, hq⟩, fun ⟨x, hx, hq⟩ => ⟨x, h.mem_iff.2 hx, hq⟩⟩
theorem flatMap_perm {α β : Type} (l : List α) {f g : α → List β} (h : ∀ a ∈ l, (f a).Perm (g a)) : (l.flatMap f).Perm (l.flatMap g) := by
  induction l with
  | nil => exact List.Perm.refl _
  | cons a l ih =>
    rw [List.flatMap_cons, List.flatMap_cons]
    exact (h a (List.mem_cons_self ..)).append (ih (fun b hb => h b (List.mem_cons_of_mem _ hb)))
theorem told_perm {p : Pln} (hk : p.kind ≠ 3) {L L' R R' : List Stm} (hL : L.Perm L') (hR : R.Perm R') : (told p L R).Perm (told p L' R') := by
  rw [told_pair hk, told_pair hk]
  refine List.Perm.append ?_ ?_
  · refine (hL.flatMap_right _).trans ?_
    exact flatMap_perm _ (fun l _ => bringL_perm hR l)
  · unfold bringR
    split
    · have e : (fun s : Stm => !L.any (fun l => pairB p l s)) = fun s => !L'.any (fun l => pairB p l s) := by
        funext s; rw [any_perm hL]
      rw [e]
      exact (hR.filter _).map _
    · exact List.Perm.refl _
end Go.Proofs.YtcpanmaahhiioaaGreat.bt

/- What keeps rows from being joined: timesFit, mayComeIn, checkRows. -/
namespace Go.Proofs.YtcpanmaahhiioaaGreat.bt
open Go.ChangeShapes Go.WideShapes Go.ChangeAt Go.RowKit
open vl pl
set_option linter.unusedVariables false
set_option linter.unusedSimpArgs false
set_option maxHeartbeats 1000000 in
theorem everyStm_any (fn : FuncId) (eg : ∀ args w, (callFunc fn args).run Tryz.prog w = .ok (.enter fn args) w) (caps : Array Value) (P : Nat → Bool) (a : Option Addr) (cap : Nat) (l : List Stm) (w : World) (hl : l.length ≤ 9223372036854775807) (ha : stmsAt w a l)
    (H : ∀ i w1 ra rc, i < l.length → Below w.heap.size w w1 → Calls Tryz.prog fn (#[.int .i64 (i : Nat), .agg #[.int .i64 (l.getD i default).t, .slice ra (l.getD i default).r.length rc]] ++ caps) w1 fun e w' => e = .returned (.bool (P i)) ∧ Below w1.heap.size w1 w') :
    Calls Tryz.prog 107 #[.slice a l.length cap, .func (.func fn) #[] caps] w fun e w' => e = .returned (.bool (allB l.length P)) ∧ Below w.heap.size w w' := by
  have HH : Hid (∀ i w1 ra rc, i < l.length → Below w.heap.size w w1 → Calls Tryz.prog fn (#[.int .i64 (i : Nat), .agg #[.int .i64 (l.getD i default).t, .slice ra (l.getD i default).r.length rc]] ++ caps) w1 fun e w' => e = .returned (.bool (P i)) ∧ Below w1.heap.size w1 w') := H
  clear H
  obtain ⟨n, hn⟩ : ∃ n, l.length = n := ⟨_, rfl⟩
  have HN : Hid (l.length = n) := hn
  rw [hn] at hl ⊢
  clear hn
  go_enter Tryz.func107, Tryz.ntmps107
  go_wp2
  go_loopw [9] (fun i wr => ∃ k : Nat, k ≤ n ∧ i = .int .i64 k ∧ Below w.heap.size w wr ∧ ∀ i, i < k → P i = true) (fun i _ => n - (intOf i).toNat)
  case atStart => exact ⟨0, Nat.zero_le _, rfl, Below.refl _ _, fun i hi => absurd hi (Nat.not_lt_zero i)⟩
  case round =>
    obtain ⟨k, hk, rfl, hnx, hall⟩ := hrel
    have HA : Hid (∀ i, i < k → P i = true) := hall
    clear hall
    by_cases hlt : k < n
    · obtain ⟨b, o, ra, rc, e, x1, x2, x3⟩ := ha k (by rw [HN.out]; exact hlt)
      subst e
      have q1 := cell_later hnx x1
      have q2 := cell_later hnx x2
      clear x1 x2 x3 ha
      have i1 : (0 : Int) ≤ (k : Int) := by omega
      have i2 : (k : Int) < (n : Int) := by omega
      have KK : Hid (∀ w1, Below wr.heap.size wr w1 → Calls Tryz.prog fn (#[.int .i64 (k : Nat), .agg #[.int .i64 (l.getD k default).t, .slice ra (l.getD k default).r.length rc]] ++ caps) w1 fun e w' => e = .returned (.bool (P k)) ∧ Below w1.heap.size w1 w') := fun w1 hb => HH.out k w1 ra rc (by rw [HN.out]; exact hlt) (hnx.trans (hb.mono hnx.size))
      obtain ⟨z1, hz1⟩ : ∃ z, (l.getD k default).t = z := ⟨_, rfl⟩
      obtain ⟨z2, hz2⟩ : ∃ z, (l.getD k default).r.length = z := ⟨_, rfl⟩
      rw [hz1] at q1 KK
      rw [hz2] at q2 KK
      clear hz1 hz2
      have hsz := hnx.size
      cases hp : P k with
      | true =>
        rw [hp] at KK
        go_wp2_with (go_at_fn fn; refine (KK.out _ ((Below.refl _ _).alloc (Nat.le_refl _) _)).mono ?_; rintro e w1 ⟨rfl, hb1⟩; have hbx := (hnx.alloc hsz _).trans (hb1.mono (by simp; omega)))
        go_roundw
        case rel => exact ⟨k + 1, by omega, by go_num, hbx, fun i hi => by
          rcases Nat.lt_succ_iff_lt_or_eq.1 hi with h | h
          · exact HA.out i h
          · rw [h]; exact hp⟩
        case measure => simp [intOf]; omega
      | false =>
        have HE : Hid (allB n P = false) := allB_no hlt hp
        rw [hp] at KK
        go_wp2_with (go_at_fn fn; refine (KK.out _ ((Below.refl _ _).alloc (Nat.le_refl _) _)).mono ?_; rintro e w1 ⟨rfl, hb1⟩; have hbx := (hnx.alloc hsz _).trans (hb1.mono (by simp; omega)))
        go_ret
        exact ⟨ret_bool HE.out.symm, hbx⟩
    · have HE : Hid (allB n P = true) := allB_iff.2 (fun i hi => HA.out i (by omega))
      go_wp2
      go_ret
      exact ⟨ret_bool HE.out.symm, hnx⟩
theorem tf1_any (i : Int) (t : Int) (ra : Option Addr) (n rc : Nat) (w : World) :
    Calls Tryz.prog 108 #[.int .i64 i, .agg #[.int .i64 t, .slice ra n rc]] w fun e w' => e = .returned (.bool (tm.fitB t)) ∧ Below w.heap.size w w' := by
  go_enter Tryz.func108, Tryz.ntmps108
  go_wp2_with (go_at_call 109; refine (tm.fits_any _ _).mono ?_; rintro e w' ⟨rfl, hw⟩; subst hw)
  go_ret
  exact ⟨rfl, (Below.refl _ _).alloc (Nat.le_refl _) _⟩
theorem timesFit_any (a : Option Addr) (cap : Nat) (l : List Stm) (w : World) (hl : l.length ≤ 9223372036854775807) (ha : stmsAt w a l) :
    Calls Tryz.prog 72 #[.slice a l.length cap] w fun e w' => e = .returned (.bool (fitsB l)) ∧ Below w.heap.size w w' := by
  have H := everyStm_any 108 (enters_of Tryz.func108 (by kernel_rfl) rfl) #[] (fun i => tm.fitB (l.getD i default).t) a cap l w hl ha (fun i w1 ra rc _ _ => tf1_any i _ ra _ rc w1)
  obtain ⟨n, hn⟩ : ∃ n, l.length = n := ⟨_, rfl⟩
  have HB : Hid (fitsB l = allB n (fun i => tm.fitB (l.getD i default).t)) := by show fitsB l = _; unfold fitsB; rw [hn]
  rw [hn] at H ⊢
  clear hn
  go_enter Tryz.func72, Tryz.ntmps72
  go_wp2_with (go_at_call 107; refine H.mono ?_; rintro e w1 ⟨rfl, hb1⟩)
  go_ret
  exact ⟨ret_bool HB.out.symm, hb1⟩
set_option maxRecDepth 10000 in
set_option maxHeartbeats 4000000 in
theorem mayComeIn_any (p : Pln) (x : PA) (side : Int) (a : Option Addr) (cap : Nat) (l : List Stm) (w : World) (hw : wfPlan p) (hp : planAt w p x) (h0 : planErr p = 0) (hl : l.length ≤ 9223372036854775807) (ha : stmsAt w a l) (hwl : wfStms l) :
    Calls Tryz.prog 73 #[planV p x, .int .i64 side, .slice a l.length cap] w fun e w' => e = .returned (.int .i64 (firstErr p side l)) ∧ Below w.heap.size w w' := by
  have K1 : Hid (∀ w1 k ra rc, k < l.length → Below w.heap.size w w1 → vl.rowAt w1 ra (l.getD k default).r → Calls Tryz.prog 110 #[planV p x, .int .i64 side, .slice ra (l.getD k default).r.length rc] w1 fun e w' => e = .returned (.int .i64 (rErr p side (l.getD k default).r)) ∧ Below w1.heap.size w1 w') := fun w1 k ra rc hk hb hr => by
    have hh := wfs_at hwl k hk
    have := row_any p x side ra rc (l.getD k default).r w1 hw (planAt_below hp hb) hr hh.1 hh.2.1
    unfold rowErr at this
    rw [if_pos h0] at this
    exact this
  have HAT : Hid (∀ k, k < l.length → (∀ i, i < k → rErr p side (l.getD i default).r = 0) → rErr p side (l.getD k default).r ≠ 0 → firstErr p side l = rErr p side (l.getD k default).r) := fun k hk h hne => firstErr_at hk h hne
  have HEN : Hid ((∀ i, i < l.length → rErr p side (l.getD i default).r = 0) → firstErr p side l = 0) := fun h => firstErr_end (Nat.le_refl _) h
  have HA : Hid (stmsAt w a l) := ha
  obtain ⟨ER, hER⟩ : ∃ z, rErr p side = z := ⟨_, rfl⟩
  rw [hER] at K1 HAT HEN
  obtain ⟨fe, hfe⟩ : ∃ z, firstErr p side l = z := ⟨_, rfl⟩
  rw [hfe] at HAT HEN ⊢
  clear hER hfe hw hp h0 ha hwl
  obtain ⟨n, hn⟩ : ∃ n, l.length = n := ⟨_, rfl⟩
  have HN : Hid (l.length = n) := hn
  rw [hn] at hl HAT HEN K1 ⊢
  clear hn
  obtain ⟨kind, mode, low, high, size, limit, left, right, lkeys, rkeys, grouped, group, aggs⟩ := p
  obtain ⟨la, lc, rr, rc, lk, lkc, rk, rkc, g, gc, ag, ac⟩ := x
  unfold planV at K1 ⊢
  dsimp only at K1 ⊢
  obtain ⟨n6, h6⟩ : ∃ n, left.length = n := ⟨_, rfl⟩
  obtain ⟨n7, h7⟩ : ∃ n, right.length = n := ⟨_, rfl⟩
  obtain ⟨n8, h8⟩ : ∃ n, lkeys.length = n := ⟨_, rfl⟩
  obtain ⟨n9, h9⟩ : ∃ n, rkeys.length = n := ⟨_, rfl⟩
  obtain ⟨n11, h11⟩ : ∃ n, group.length = n := ⟨_, rfl⟩
  obtain ⟨n12, h12⟩ : ∃ n, aggs.length = n := ⟨_, rfl⟩
  rw [h6, h7, h8, h9, h11, h12] at K1
  rw [h6, h7, h8, h9, h11, h12]
  clear h6 h7 h8 h9 h11 h12
  go_enter Tryz.func73, Tryz.ntmps73
  go_wp2
  generalize hW0 : (World.alloc w _) = W0
  have hb0 : Below w.heap.size w W0 := by rw [← hW0]; exact (Below.refl _ _).alloc (Nat.le_refl _) _
  have s0 : W0.cell? ⟨w.heap.size, 0, none⟩ = some (.int .i64 kind) := by subst hW0; go_simp
  have s1 : W0.cell? ⟨w.heap.size, 1, none⟩ = some (.int .i64 mode) := by subst hW0; go_simp
  have s2 : W0.cell? ⟨w.heap.size, 2, none⟩ = some (.int .i64 low) := by subst hW0; go_simp
  have s3 : W0.cell? ⟨w.heap.size, 3, none⟩ = some (.int .i64 high) := by subst hW0; go_simp
  have s4 : W0.cell? ⟨w.heap.size, 4, none⟩ = some (.int .i64 size) := by subst hW0; go_simp
  have s5 : W0.cell? ⟨w.heap.size, 5, none⟩ = some (.int .i64 limit) := by subst hW0; go_simp
  have s6 : W0.cell? ⟨w.heap.size, 6, none⟩ = some (.slice la n6 lc) := by subst hW0; go_simp
  have s7 : W0.cell? ⟨w.heap.size, 7, none⟩ = some (.slice rr n7 rc) := by subst hW0; go_simp
  have s8 : W0.cell? ⟨w.heap.size, 8, none⟩ = some (.slice lk n8 lkc) := by subst hW0; go_simp
  have s9 : W0.cell? ⟨w.heap.size, 9, none⟩ = some (.slice rk n9 rkc) := by subst hW0; go_simp
  have s10 : W0.cell? ⟨w.heap.size, 10, none⟩ = some (.bool grouped) := by subst hW0; go_simp
  have s11 : W0.cell? ⟨w.heap.size, 11, none⟩ = some (.slice g n11 gc) := by subst hW0; go_simp
  have s12 : W0.cell? ⟨w.heap.size, 12, none⟩ = some (.slice ag n12 ac) := by subst hW0; go_simp
  clear hW0
  go_loopw [8, 12] (fun _ i wr => ∃ k : Nat, k ≤ n ∧ i = .int .i64 k ∧ Below W0.heap.size W0 wr ∧ ∀ i, i < k → ER (l.getD i default).r = 0) (fun _ i _ => n - (intOf i).toNat)
  case atStart => exact ⟨0, Nat.zero_le _, rfl, Below.refl _ _, fun i hi => absurd hi (Nat.not_lt_zero i)⟩
  case round =>
    obtain ⟨k, hk, rfl, hnx, hall⟩ := hrel
    have HAL : Hid (∀ i, i < k → ER (l.getD i default).r = 0) := hall
    have hbr := hb0.trans (hnx.mono hb0.size)
    have hsz := hnx.size
    clear hall
    have c0 := cell_later hnx s0
    have c1 := cell_later hnx s1
    have c2 := cell_later hnx s2
    have c3 := cell_later hnx s3
    have c4 := cell_later hnx s4
    have c5 := cell_later hnx s5
    have c6 := cell_later hnx s6
    have c7 := cell_later hnx s7
    have c8 := cell_later hnx s8
    have c9 := cell_later hnx s9
    have c10 := cell_later hnx s10
    have c11 := cell_later hnx s11
    have c12 := cell_later hnx s12
    by_cases hlt : k < n
    · obtain ⟨b, o, ra, rc2, e, x1, x2, x3⟩ := HA.out k (by rw [HN.out]; exact hlt)
      subst e
      have q1 := cell_later hbr x1
      have q2 := cell_later hbr x2
      have i1 : (0 : Int) ≤ (k : Int) := by omega
      have i2 : (k : Int) < (n : Int) := by omega
      have hlw : w.heap.size < wr.heap.size := World.block_lt_of_cell? _ _ c0
      have KK : Hid (∀ w1, Below wr.heap.size wr w1 → _) := fun w1 hb => K1.out w1 k ra rc2 hlt (hbr.trans (hb.mono hbr.size)) (rowAt_below (rowAt_below x3 hbr) hb)
      have HATk : Hid (ER (l.getD k default).r ≠ 0 → fe = ER (l.getD k default).r) := HAT.out k hlt HAL.out
      have HST : Hid (ER (l.getD k default).r = 0 → ∀ i, i < k + 1 → ER (l.getD i default).r = 0) := fun h i hi => by
        rcases Nat.lt_succ_iff_lt_or_eq.1 hi with h1 | h1
        · exact HAL.out i h1
        · rw [h1]; exact h
      obtain ⟨er, her⟩ : ∃ z, ER (l.getD k default).r = z := ⟨_, rfl⟩
      rw [her] at KK HATk HST
      obtain ⟨tv, htv⟩ : ∃ z, (l.getD k default).t = z := ⟨_, rfl⟩
      obtain ⟨rl, hrl⟩ : ∃ z, (l.getD k default).r.length = z := ⟨_, rfl⟩
      rw [htv] at q1
      rw [hrl] at q2 KK
      clear her htv hrl x1 x2 x3
      by_cases h0 : er = 0
      · subst h0
        go_wp2_with fail
        refine (KK.out _ ((Below.refl _ _).alloc (Nat.le_refl _) _)).mono ?_
        rintro e w1 ⟨rfl, hb1⟩
        have hbn := (hnx.alloc hsz _).trans (hb1.mono (by simp; omega))
        have HS := HST.out (by trivial)
        have HS2 : Hid (∀ i, i < k + 1 → ER (l.getD i default).r = 0) := HS
        clear HS HST HATk
        go_wp2
        go_roundw
        case rel => exact ⟨k + 1, by omega, by go_num, hbn, HS2.out⟩
        case measure => simp [intOf]; omega
      · have h0' : (er != 0) = true := by simpa using h0
        have HX : Hid (fe = er) := HATk.out h0
        clear h0
        go_wp2_with fail
        refine (KK.out _ ((Below.refl _ _).alloc (Nat.le_refl _) _)).mono ?_
        rintro e w1 ⟨rfl, hb1⟩
        have hbn := (hbr.alloc hbr.size _).trans (hb1.mono (by have := hbr.size; simp; omega))
        go_wp2
        go_ret
        exact ⟨ret_int HX.out.symm, hbn⟩
    · have HX : Hid (fe = 0) := HEN.out (fun i hi => HAL.out i (by omega))
      go_wp2
      go_ret
      exact ⟨ret_int HX.out.symm, hbr⟩
end Go.Proofs.YtcpanmaahhiioaaGreat.bt

/- E3: what keeps rows from being joined: checkRows. -/
namespace Go.Proofs.YtcpanmaahhiioaaGreat.bt
open Go.ChangeShapes Go.WideShapes Go.ChangeAt Go.RowKit
open vl pl
set_option linter.unusedVariables false
set_option linter.unusedSimpArgs false
theorem wrapN (x : Int) : IntKind.i64.wrap x = (x + 9223372036854775808) % 18446744073709551616 - 9223372036854775808 := by
  simp only [IntKind.wrap, IntKind.signed, IntKind.bits]
  simp
  split <;> omega
/-- what checkRows answers, by its parts -/
def rowsErr (pe : Int) (many f1 f2 : Bool) (e1 e2 : Int) : Int :=
  if pe ≠ 0 then pe else if many = true then 2 else if f1 = false ∨ f2 = false then 3 else if e1 ≠ 0 then e1 else e2
theorem batchErr_parts (p : Pln) (L R : List Stm) : batchErr p L R = rowsErr (planErr p) (decide (120 < L.length + R.length)) (fitsB L) (fitsB R) (firstErr p 1 L) (firstErr p 2 R) := by
  unfold batchErr rowsErr; simp only [decide_eq_true_eq]
set_option maxRecDepth 10000 in
set_option maxHeartbeats 4000000 in
theorem checkRows_any (p : Pln) (x : PA) (a1 a2 : Option Addr) (c1 c2 : Nat) (L R : List Stm) (w : World) (hw : wfPlan p) (hp : planAt w p x) (hl : L.length + R.length ≤ 9223372036854775807) (h1 : stmsAt w a1 L) (h2 : stmsAt w a2 R) (hL : wfStms L) (hR : wfStms R) :
    Calls Tryz.prog 27 #[planV p x, .slice a1 L.length c1, .slice a2 R.length c2] w fun e w' => e = .returned (.int .i64 (batchErr p L R)) ∧ Below w.heap.size w w' := by
  have K0 : Hid (∀ w1, Below w.heap.size w w1 → Calls Tryz.prog 71 #[planV p x] w1 fun e w' => e = .returned (.int .i64 (planErr p)) ∧ Below w1.heap.size w1 w') := fun w1 hb => planCheck_any p x w1 hw (planAt_below hp hb)
  have K1 : Hid (∀ w1, Below w.heap.size w w1 → Calls Tryz.prog 72 #[.slice a1 L.length c1] w1 fun e w' => e = .returned (.bool (fitsB L)) ∧ Below w1.heap.size w1 w') := fun w1 hb => timesFit_any a1 c1 L w1 (by omega) (stmsAt_below h1 hb)
  have K2 : Hid (∀ w1, Below w.heap.size w w1 → Calls Tryz.prog 72 #[.slice a2 R.length c2] w1 fun e w' => e = .returned (.bool (fitsB R)) ∧ Below w1.heap.size w1 w') := fun w1 hb => timesFit_any a2 c2 R w1 (by omega) (stmsAt_below h2 hb)
  have K3 : Hid (∀ w1, Below w.heap.size w w1 → yes (decide (planErr p = 0)) (Calls Tryz.prog 73 #[planV p x, .int .i64 1, .slice a1 L.length c1] w1 fun e w' => e = .returned (.int .i64 (firstErr p 1 L)) ∧ Below w1.heap.size w1 w')) := fun w1 hb h0 => mayComeIn_any p x 1 a1 c1 L w1 hw (planAt_below hp hb) (of_decide_eq_true h0) (by omega) (stmsAt_below h1 hb) hL
  have K4 : Hid (∀ w1, Below w.heap.size w w1 → yes (decide (planErr p = 0)) (Calls Tryz.prog 73 #[planV p x, .int .i64 2, .slice a2 R.length c2] w1 fun e w' => e = .returned (.int .i64 (firstErr p 2 R)) ∧ Below w1.heap.size w1 w')) := fun w1 hb h0 => mayComeIn_any p x 2 a2 c2 R w1 hw (planAt_below hp hb) (of_decide_eq_true h0) (by omega) (stmsAt_below h2 hb) hR
  have HK : Hid (batchErr p L R = rowsErr (planErr p) (decide (120 < L.length + R.length)) (fitsB L) (fitsB R) (firstErr p 1 L) (firstErr p 2 R)) := batchErr_parts p L R
  obtain ⟨be, hbe⟩ : ∃ z, batchErr p L R = z := ⟨_, rfl⟩
  rw [hbe] at HK ⊢
  obtain ⟨pe, hpe⟩ : ∃ z, planErr p = z := ⟨_, rfl⟩
  obtain ⟨f1, hf1⟩ : ∃ z, fitsB L = z := ⟨_, rfl⟩
  obtain ⟨f2, hf2⟩ : ∃ z, fitsB R = z := ⟨_, rfl⟩
  obtain ⟨e1, he1⟩ : ∃ z, firstErr p 1 L = z := ⟨_, rfl⟩
  obtain ⟨e2, he2⟩ : ∃ z, firstErr p 2 R = z := ⟨_, rfl⟩
  rw [hpe] at K0 K3 K4 HK
  rw [hf1] at K1 HK
  rw [hf2] at K2 HK
  rw [he1] at K3 HK
  rw [he2] at K4 HK
  obtain ⟨n1, hn1⟩ : ∃ n, L.length = n := ⟨_, rfl⟩
  obtain ⟨n2, hn2⟩ : ∃ n, R.length = n := ⟨_, rfl⟩
  rw [hn1] at K1 K3 HK hl ⊢
  rw [hn2] at K2 K4 HK hl ⊢
  clear hbe hpe hf1 hf2 he1 he2 hn1 hn2 hw hp h1 h2 hL hR
  obtain ⟨kind, mode, low, high, size, limit, left, right, lkeys, rkeys, grouped, group, aggs⟩ := p
  obtain ⟨la, lc, rr, rc, lk, lkc, rk, rkc, g, gc, ag, ac⟩ := x
  unfold planV at K0 K3 K4 ⊢
  dsimp only at K0 K3 K4 ⊢
  obtain ⟨n6, h6⟩ : ∃ n, left.length = n := ⟨_, rfl⟩
  obtain ⟨n7, h7⟩ : ∃ n, right.length = n := ⟨_, rfl⟩
  obtain ⟨n8, h8⟩ : ∃ n, lkeys.length = n := ⟨_, rfl⟩
  obtain ⟨n9, h9⟩ : ∃ n, rkeys.length = n := ⟨_, rfl⟩
  obtain ⟨n11, h11⟩ : ∃ n, group.length = n := ⟨_, rfl⟩
  obtain ⟨n12, h12⟩ : ∃ n, aggs.length = n := ⟨_, rfl⟩
  rw [h6, h7, h8, h9, h11, h12] at K0 K3 K4
  rw [h6, h7, h8, h9, h11, h12]
  clear h6 h7 h8 h9 h11 h12
  go_enter Tryz.func27, Tryz.ntmps27
  go_wp2_with fail
  refine (K0.out _ ((Below.refl _ _).alloc (Nat.le_refl _) _)).mono ?_
  rintro e w1 ⟨rfl, hb1⟩
  have hba := ((Below.refl _ _).alloc (Nat.le_refl _) _).trans (hb1.mono (by simp))
  obtain ⟨hc1, hg1⟩ := bcell hb1
  have hz1 : w.heap.size < w1.heap.size := (by have := hb1.size; simp at this; omega)
  by_cases hpe : pe = 0
  case neg =>
    have hpe' : (pe != 0) = true := by simpa using hpe
    have HX : Hid (be = pe) := by rw [HK.out]; show rowsErr .. = _; unfold rowsErr; rw [if_pos hpe]
    clear hpe HK
    go_wp2
    go_ret
    exact ⟨ret_int HX.out.symm, hba⟩
  subst hpe
  have hsum : IntKind.i64.wrap ((n1 : Int) + (n2 : Int)) = (n1 : Int) + (n2 : Int) := by rw [wrapN]; omega
  by_cases hm : 120 < n1 + n2
  · have hm' : (120 : Int) < (n1 : Int) + (n2 : Int) := by omega
    have HX : Hid (be = 2) := by rw [HK.out]; show rowsErr .. = _; unfold rowsErr; simp [hm]
    clear hm HK
    go_wp2
    go_ret
    exact ⟨ret_int HX.out.symm, hba⟩
  have hm' : ¬ (120 : Int) < (n1 : Int) + (n2 : Int) := by omega
  have HK2 : Hid (be = if f1 = false ∨ f2 = false then 3 else if e1 ≠ 0 then e1 else e2) := by rw [HK.out]; show rowsErr .. = _; unfold rowsErr; simp [hm]
  clear hm HK
  go_wp2_with fail
  refine (K1.out _ hba).mono ?_
  rintro e w2 ⟨rfl, hb2⟩
  have hbb := hba.trans (hb2.mono hba.size)
  obtain ⟨hc2, hg2⟩ := bcell hb2
  have hz2 : w.heap.size < w2.heap.size := (by have := hb2.size; omega)
  cases f1
  · have HX : Hid (be = 3) := by rw [HK2.out]; show (if _ then _ else _) = _; simp
    clear HK2
    go_wp2
    go_ret
    exact ⟨ret_int HX.out.symm, hbb⟩
  go_wp2_with fail
  refine (K2.out _ hbb).mono ?_
  rintro e w3 ⟨rfl, hb3⟩
  have hbc := hbb.trans (hb3.mono hbb.size)
  obtain ⟨hc3, hg3⟩ := bcell hb3
  have hz3 : w.heap.size < w3.heap.size := (by have := hb3.size; omega)
  cases f2
  · have HX : Hid (be = 3) := by rw [HK2.out]; show (if _ then _ else _) = _; simp
    clear HK2
    go_wp2
    go_ret
    exact ⟨ret_int HX.out.symm, hbc⟩
  have HK3 : Hid (be = if e1 ≠ 0 then e1 else e2) := by rw [HK2.out]; show (if _ then _ else _) = _; simp
  clear HK2
  go_wp2_with fail
  refine (K3.out _ hbc (by trivial)).mono ?_
  rintro e w4 ⟨rfl, hb4⟩
  have hbd := hbc.trans (hb4.mono hbc.size)
  obtain ⟨hc4, hg4⟩ := bcell hb4
  have hz4 : w.heap.size < w4.heap.size := (by have := hb4.size; omega)
  by_cases he : e1 = 0
  case neg =>
    have he' : (e1 != 0) = true := by simpa using he
    have HX : Hid (be = e1) := by rw [HK3.out, if_pos he]; rfl
    clear HK3 he
    go_wp2
    go_ret
    exact ⟨ret_int HX.out.symm, hbd⟩
  subst he
  have HX : Hid (be = e2) := by rw [HK3.out]; show (if _ then _ else _) = _; simp
  clear HK3
  go_wp2_with fail
  refine (K4.out _ hbd (by trivial)).mono ?_
  rintro e w5 ⟨rfl, hb5⟩
  go_wp2
  go_ret
  exact ⟨ret_int HX.out.symm, hbd.trans (hb5.mono hbd.size)⟩
end Go.Proofs.YtcpanmaahhiioaaGreat.bt

/- What is read of rows with their times that came in. -/
namespace Go.Proofs.YtcpanmaahhiioaaGreat.bt
open Go.ChangeShapes Go.WideShapes Go.ChangeAt Go.RowKit Go.Joins Go.Deep
open vl pl
set_option linter.unusedVariables false
set_option linter.unusedSimpArgs false
theorem cellsS : Tryz.prog.cellsOf 53 = 2 := by kernel_rfl
theorem cellsR : Tryz.prog.cellsOf 43 = 1 := by kernel_rfl
section
variable {H : Type} {enc : TypeId × Value → H} {w : World} {base : Nat} {spare : Nat → Bool} {held : Bool}

theorem open_one {v : Value} {y : DataW H × List MemPlace} {fuel : Nat} (h : DataW.trod enc Tryz.prog w base spare held fuel 43 [v] = some y) :
    ∃ a len cap r, v = .slice a len cap ∧ List.length (α := Cel) r = len ∧ vl.rowAt w a r ∧ wfRow r ∧ len ≤ 9223372036854775807 := by
  rcases open_slice Tryz.underlying43 h with ⟨hcs, _⟩ | ⟨x, l, c, m, n, D, Pl, hcs, _⟩
  · simp at hcs
    subst hcs
    obtain ⟨r, h1, h2, h3, h4⟩ := open_row (a := none) (len := 0) (cap := 0) (d := y.1) (p := y.2) ⟨fuel, h⟩
    exact ⟨_, _, _, r, rfl, h1, h2, h3, h4⟩
  · simp at hcs
    subst hcs
    obtain ⟨r, h1, h2, h3, h4⟩ := open_row (a := some x) (len := l) (cap := c) (d := y.1) (p := y.2) ⟨fuel, h⟩
    exact ⟨_, _, _, r, rfl, h1, h2, h3, h4⟩

set_option maxRecDepth 100000 in
theorem open_stm {x : Addr} {cs : List Value} {y : DataW H × List MemPlace} {fuel : Nat} (hc : w.cells? base x 2 = some cs) (ht : DataW.trod enc Tryz.prog w base spare held fuel 53 cs = some y) :
    ∃ (b off : Nat) (c : Stm) (ra : Option Addr) (rc : Nat), x = ⟨b, off, none⟩ ∧ w.cell? ⟨b, off, none⟩ = some (.int .i64 c.t) ∧ w.cell? ⟨b, off + 1, none⟩ = some (.slice ra c.r.length rc) ∧ vl.rowAt w ra c.r ∧ wfRow c.r ∧ c.r.length ≤ 9223372036854775807 ∧ (-9223372036854775808 ≤ c.t ∧ c.t ≤ 9223372036854775807) := by
  obtain ⟨_, hlen, hat⟩ := World.cells?_some hc
  obtain ⟨y0, y1, n, _, _, h0, h1⟩ := trod_struct2 Tryz.underlying53 ht
  match cs, hlen with
  | [a0, a1], _ =>
    obtain ⟨m, e1, _, wm⟩ := DataW.trod_int Tryz.underlying3 h0
    simp [cellsInt] at e1
    subst e1
    simp [cellsR, cellsInt] at h1
    obtain ⟨ra, rl, rc, r, e0, hl, hr, hw, hm⟩ := open_one h1
    subst e0 hl
    obtain ⟨b, off, spot⟩ := x
    have g0 := hat 0 (by omega)
    have g1 := hat 1 (by omega)
    have hspot : spot = none := by simpa [Addr.add] using World.cell?_spot g0
    subst hspot
    refine ⟨b, off, ⟨m, r⟩, ra, rc, rfl, ?_, ?_, hr, hw, hm, bounds_i64 wm⟩
    · simpa [Addr.add] using g0
    · simpa [Addr.add] using g1

theorem open_stms {a : Option Addr} {len cap : Nat} {d : DataW H} {p : List MemPlace} (h : DataW.Trod enc Tryz.prog w base spare held 26 (.slice a len cap) d p) :
    ∃ r : List Stm, r.length = len ∧ stmsAt w a r ∧ wfStms r ∧ (len ≤ 9223372036854775807 ∧ len ≤ cap) := by
  obtain ⟨fuel, hf⟩ := h
  rcases open_slice Tryz.underlying26 hf with ⟨hcs, _⟩ | ⟨x, l, c, m, n, D, Pl, hcs, _, hl, hm, hmm, _, hel⟩
  · simp [Value.cells] at hcs
    obtain ⟨rfl, rfl, rfl⟩ := hcs
    exact ⟨[], rfl, fun i hi => absurd hi (Nat.not_lt_zero i), (fun c hc => by cases hc), by omega, by omega⟩
  · simp [Value.cells] at hcs
    obtain ⟨rfl, rfl, rfl⟩ := hcs
    have hle : len ≤ m := by rw [hmm]; split <;> omega
    rw [cellsS] at hel
    obtain ⟨f, hfam⟩ := choose_lt (α := Stm) (n := len) (p := fun i c => ∃ b off ra rc, x = ⟨b, off, none⟩ ∧ w.cell? ⟨b, off + i * 2, none⟩ = some (.int .i64 c.t) ∧ w.cell? ⟨b, off + i * 2 + 1, none⟩ = some (.slice ra c.r.length rc) ∧ vl.rowAt w ra c.r ∧ wfRow c.r ∧ c.r.length ≤ 9223372036854775807 ∧ (-9223372036854775808 ≤ c.t ∧ c.t ≤ 9223372036854775807)) (fun i hi => by
      obtain ⟨cs', h1, h2⟩ := hel i (by omega)
      obtain ⟨b, off, c, ra, rc, e, g0, g1, g2, hw⟩ := open_stm h1 h2
      obtain ⟨cs0, z1, z2⟩ := hel 0 (by omega)
      obtain ⟨b0, off0, c0, ra0, rc0, e0, _⟩ := open_stm z1 z2
      have ex : x = ⟨b0, off0, none⟩ := by simpa [Addr.add] using e0
      subst ex
      have ea : (⟨b0, off0, none⟩ : Addr).add (i * 2) = ⟨b0, off0 + i * 2, none⟩ := by unfold Addr.add; split <;> simp_all
      rw [ea] at e
      cases e
      exact ⟨c, b, off0, ra, rc, rfl, g0, g1, g2, hw⟩)
    refine ⟨(List.range len).map f, by simp, ?_, ?_, by unfold maxLen at hm; omega, hl⟩
    · intro i hi
      have hi' : i < len := by simpa using hi
      obtain ⟨b, off, ra, rc, rfl, g0, g1, g2, _⟩ := hfam i hi'
      have e : ((List.range len).map f).getD i default = f i := by simp [List.getD_eq_getElem?_getD, hi']
      rw [e]
      exact ⟨b, off, ra, rc, rfl, g0, g1, g2⟩
    · intro c hc
      obtain ⟨i, hi, rfl⟩ := List.mem_map.1 hc
      obtain ⟨_, _, _, _, _, _, _, _, hw⟩ := hfam i (by simpa using hi)
      exact hw
end
end Go.Proofs.YtcpanmaahhiioaaGreat.bt

/- How long rows with their times can be that came in. -/
namespace Go.Proofs.YtcpanmaahhiioaaGreat.bt
open Go.ChangeShapes Go.WideShapes Go.ChangeAt Go.RowKit Go.Joins Go.Deep
open vl pl
set_option linter.unusedVariables false
set_option linter.unusedSimpArgs false
theorem bytesS : Tryz.prog.bytesOf 53 = 32 := by kernel_rfl
theorem stms_reach {H : Type} {enc : TypeId × Value → H} {w : World} {base : Nat} {spare : Nat → Bool} {held : Bool} {a : Option Addr} {len cap : Nat} {d : DataW H} {p : List MemPlace} {ts : List TypeId} {ds : List (DataW H)} (h : DataW.Trod enc Tryz.prog w base spare held 26 (.slice a len cap) d p)
    (hs : (DataW.weightsEach Tryz.prog ts ds).all (· ≤ reachBytes) = true) {j : Nat} (ht : ts[j]? = some 26) (hd : ds[j]? = some d) : len ≤ 140737488355328 := by
  obtain ⟨fuel, hf⟩ := h
  rcases open_slice Tryz.underlying26 hf with ⟨hcs, _⟩ | ⟨x, l, c, m, n, D, Pl, hcs, _, _, _, _, hx, _⟩
  · simp [Value.cells] at hcs
    omega
  · simp [Value.cells] at hcs
    obtain ⟨rfl, rfl, rfl⟩ := hcs
    have e := congrArg Prod.fst hx
    dsimp only at e
    rw [e] at hd
    have h1 := sized_slice hs ht hd Tryz.underlying26
    rw [bytesS] at h1
    have h2 := reachBytes_lt
    simp at h1
    omega
end Go.Proofs.YtcpanmaahhiioaaGreat.bt
