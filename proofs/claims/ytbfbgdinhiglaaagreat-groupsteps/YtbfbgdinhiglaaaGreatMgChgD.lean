import Derived.Test.YtbfbgdinhiglaaaGreatS9
namespace Go.Proofs.YtbfbgdinhiglaaaGreat.ch
open Go.ChangeShapes Go.WideShapes Go.ChangeAt Go.RowKit Go.Maps Go.WideMaps
open vl
set_option linter.unusedVariables false
set_option linter.unusedSimpArgs false
theorem info9 : (Tryz.prog.info? 9).map (fun i => (i.zero, i.size, i.bytes)) = some (some (.string ⟨#[]⟩), 1, 16) := by kernel_rfl
def keyV (c : Chg) : Value := .string ⟨(encR c.r).toArray⟩
theorem keyS_is {r : List Cel} (h : rowOk r) : (.string (keyS r) : Value) = .string ⟨(encR r).toArray⟩ := by
 rw [← keyS_ok h]
theorem append_str {ops : Array Oper} {rest : List Oper} {o : Oper} {a : Act} {Q : Exit → Act → World → Prop} (hgd : o.guard = none) (s x : Operand)
 (ho : o.op = .call { callee := .builtin .append, args := #[s, x], argTypes := #[87, 87] }) (base : Nat) (v : Value) (n : Nat) (xs : List Value) (hs : a.eval s = v) (w0 : World)
 (hown : w0.ownsRow base 9 1 v n xs) (X : ByteArray) (B : Nat) (hB : w0.heap.size = B) (hx : a.eval x = .slice (some ⟨B, 0, none⟩) 1 1) (hl : n ≤ 2000000) (hb : base ≤ w0.heap.size)
 (h : ∀ v' w', w'.ownsRow base 9 1 v' (n + 1) (xs ++ [.string X]) → (w0.alloc (.cells #[.string X] 9)).grownBy w' v.ownBlock → wpList Tryz.prog ops Q rest (a.put o.dst v') w') :
 wpList Tryz.prog ops Q (o :: rest) a (w0.alloc (.cells #[.string X] 9)) := by
 subst hB
 obtain ⟨i0, hi, hz0, hz1, hz2⟩ := info_parts info9
 refine wpList_append_own _ hgd s x 87 ho base 9 i0 (.string ⟨#[]⟩) 1 16 Tryz.underlying87 hi hz0 hz1 hz2 rfl (by decide) v n xs hs
  (World.ownsRow.alloc hown _) ⟨w0.heap.size, 0, none⟩ 1 1 [.string X] hx rfl (cell_one_new _ _ _) (by intro u hu; simp at hu; subst hu; rfl) (by unfold maxLen; omega) (by omega) (by simp; omega) ?_
 intro v' w' h1 h2 _
 exact h v' w' h1 h2
theorem below_app {base : Nat} {w w0 w' : World} {e : TypeId} {size n : Nat} {xs : List Value} {v : Value} {o : Obj} (hb : Below base w w0) (h0 : base ≤ w0.heap.size) (hown : w0.ownsRow base e size v n xs) (hg : (w0.alloc o).grownBy w' v.ownBlock) : Below base w w' :=
 (hb.alloc h0 o).grown hg (by simp; omega) (fun k hk => (World.ownsRow.lt hown k hk).1)
theorem formErr_many {l : List Chg} (h : 4096 < l.length) : formErr l = 2 := by unfold formErr; rw [if_pos h]
theorem formErr_at {l : List Chg} (h1 : ¬ 4096 < l.length) (k : Nat) (hk : k < l.length) (h : ∀ i, i < k → chgOk l i) (he : chgErr l k ≠ 0) : formErr l = chgErr l k := by
 unfold formErr; rw [if_neg h1, first_is _ (fun i hi => chgErr_ok (h i hi)) he hk]
theorem takeC (l : List Chg) (k : Nat) (h : k < l.length) : l.take (k + 1) = l.take k ++ [l.getD k default] := by
 rw [List.take_succ_eq_append_getElem h]; simp [List.getD_eq_getElem?_getD, h]
theorem keys_cells {w : World} {base : Nat} {ad : Option Addr} {cap : Nat} {l : List Chg} (h : w.ownsRow base 9 1 (.slice ad l.length cap) l.length (l.map keyV)) : keysAt w ad l := by
 intro i hi
 obtain ⟨ad', cap', hv, hg⟩ := row_form h
 cases hv
 obtain ⟨g, rfl⟩ := hg (by omega)
 refine ⟨g, rfl, ?_⟩
 have h1 := World.ownsRow.cells h (g := g) rfl i (.string ⟨(encR (l.getD i default).r).toArray⟩) (by
  simp [List.getElem?_map, List.getElem?_eq_getElem hi, List.getD_eq_getElem?_getD, keyV])
 have e : (⟨g, 0, none⟩ : Addr).add i = ⟨g, i, none⟩ := by unfold Addr.add; split <;> simp_all
 rw [e] at h1
 exact h1
theorem ret_str {a b : Int} (h : a = b) : Ending.returned (.tuple #[.slice none 0 0, .int .i64 a]) = .returned (.tuple #[.slice none 0 0, .int .i64 b]) := by rw [h]
theorem ret_sl {ad : Option Addr} {cap a b : Nat} (h : a = b) : Ending.returned (.tuple #[.slice ad a cap, .int .i64 0]) = .returned (.tuple #[.slice ad b cap, .int .i64 0]) := by rw [h]
def keysRes (l : List Chg) (e : Ending) (w' : World) : Prop :=
 (formErr l = 0 ∧ formOk l ∧ ∃ ad cap, e = .returned (.tuple #[.slice ad l.length cap, .int .i64 0]) ∧ keysAt w' ad l) ∨
 (formErr l ≠ 0 ∧ e = .returned (.tuple #[.slice none 0 0, .int .i64 (formErr l)]))
theorem res_bad {l : List Chg} {w' : World} {x : Int} (h : formErr l = x) (hx : x ≠ 0) : keysRes l (.returned (.tuple #[.slice none 0 0, .int .i64 x])) w' := .inr ⟨by rw [h]; exact hx, ret_str h.symm⟩
set_option maxRecDepth 100000 in
set_option maxHeartbeats 8000000 in
theorem keysOf_any (a : Option Addr) (cap : Nat) (l : List Chg) (w : World) (hv : chgsAt w a l) (hw : wfChgs l) (hl : l.length ≤ 9223372036854775807) :
 Calls Tryz.prog 46 #[.slice a l.length cap] w fun e w' => keysRes l e w' ∧ Below w.heap.size w w' := by
 have KP : Hid (∀ w, chgsAt w a l → l.length ≤ 1000000 → ∀ i, i < l.length → Calls Tryz.prog 93 #[.slice a l.length cap, .int .i64 i] w fun e w' => e = .returned (.bool (pairedAt l i)) ∧ Below w.heap.size w w') := fun w h hl i hi => paired_any a cap l i w h hw hl hi
 obtain ⟨n, hn⟩ : ∃ n, l.length = n := ⟨_, rfl⟩
 have HN : Hid (l.length = n) := hn
 rw [hn] at hl KP ⊢
 clear hn
 by_cases h4 : 4096 < n
 ·have HE : Hid (formErr l = 2) := formErr_many (by rw [HN.out]; exact h4)
  go_enter Tryz.func46, Tryz.ntmps46
  go_wp2
  go_ret2
  exact ⟨res_bad HE.out (by decide), bR⟩
 ·obtain ⟨i0, hi, hz0, hz1, hz2⟩ := info_parts info9
  obtain ⟨wm, hmk, hown, hgr⟩ := run_make_own (P := Tryz.prog) w w.heap.size 87 9 i0 (.string ⟨#[]⟩) 1 Tryz.underlying87 hi hz0 hz1 .i64 .i64 n (by rw [hz2]; omega) (by unfold maxLen; omega) nR
  have hbm : Below w.heap.size w wm := bR.grown hgr nR (fun k hk => by cases hk)
  have HOWN : Hid (wm.ownsRow w.heap.size 9 1 (.slice (some ⟨w.heap.size, 0, none⟩) 0 n) 0 []) := hown
  have HV : Hid (chgsAt w a l) := hv
  clear hi hz0 hz1 hz2 hown hgr hv
  go_enter Tryz.func46, Tryz.ntmps46
  go_wp2
  go_loopw [4, 17] (fun v i wr => ∃ k : Nat, k ≤ n ∧ i = .int .i64 k ∧ wr.ownsRow w.heap.size 9 1 v k ((l.take k).map keyV) ∧ Below w.heap.size w wr ∧ (∀ i, i < k → chgOk l i)) (fun _ i _ => n - (intOf i).toNat)
  case atStart => exact ⟨0, by omega, rfl, HOWN.out, hbm, fun i hi => absurd hi (Nat.not_lt_zero i)⟩
  case round =>
   obtain ⟨k, hk, rfl, hown, hnx, hall⟩ := hrel
   have HO : Hid (wr.ownsRow w.heap.size 9 1 u4 k ((l.take k).map keyV)) := hown
   have HA : Hid (∀ i, i < k → chgOk l i) := hall
   have hsz := hnx.size
   clear hown hall
   by_cases hlt : k < n
   ·have hkl : k < l.length := by rw [HN.out]; exact hlt
    obtain ⟨b, o, ra, rc, e, x1, x2, x3⟩ := HV.out k hkl
    subst e
    obtain ⟨ww1, ww2, ww3, ww4⟩ := wfc_at hw k hkl
    have q1 := cL hnx x1
    have q2 := cL hnx x2
    have HR : Hid (vl.rowAt wr ra (l.getD k default).r) := rowAt_below x3 hnx
    have i1 : (0 : Int) ≤ (k : Int) := by omega
    have i2 : (k : Int) < (n : Int) := by omega
    have HB : Hid (chgErr l k ≠ 0 → formErr l = chgErr l k) := fun he => formErr_at (by rw [HN.out]; exact h4) k hkl HA.out he
    have HS : Hid ((l.take (k + 1)).map keyV = (l.take k).map keyV ++ [.string ⟨(encR (l.getD k default).r).toArray⟩]) := by
     show (l.take (k + 1)).map keyV = _
     rw [takeC l k hkl, List.map_append]; rfl
    have HDEF : Hid (chgErr l k = if (l.getD k default).k < 1 ∨ 4 < (l.getD k default).k then 4 else if keyErr (l.getD k default).r = 0 then (if pairedAt l k then 0 else 6) else keyErr (l.getD k default).r) := rfl
    have HPW : Hid (∀ w', Below w.heap.size w w' → Calls Tryz.prog 93 #[.slice (some ⟨b, o, none⟩) n cap, .int .i64 k] w' fun e w'' => e = .returned (.bool (pairedAt l k)) ∧ Below w'.heap.size w' w'') := fun w' hb => KP.out w' (chgsAt_below HV.out hb) (by omega) k hlt
    obtain ⟨⟨m, r⟩, hcv⟩ : ∃ c, l.getD k default = c := ⟨_, rfl⟩
    rw [hcv] at q1 q2 HR HS HDEF ww1 ww2 ww3 ww4
    dsimp only at q1 q2 HR HS HDEF ww1 ww2 ww3 ww4
    clear x1 x2 x3 hcv
    obtain ⟨rl, hrl⟩ : ∃ l, r.length = l := ⟨_, rfl⟩
    rw [hrl] at q2
    have KK : Hid (∀ w, vl.rowAt w ra r → Calls Tryz.prog 51 #[.slice ra rl rc] w fun e w' => e = .returned (.tuple #[.string (keyS r), .int .i64 (keyErr r)]) ∧ Below w.heap.size w w') := by
     subst hrl; exact fun w h => key_any ra rc r w h ww1 ww2
    by_cases e1 : m < 1
    ·have HE : Hid (formErr l = 4) := by
      have hd := HDEF.out
      rw [if_pos (.inl e1)] at hd
      show formErr l = 4
      rw [HB.out (by rw [hd]; decide), hd]
     go_wp2
     go_ret2
     exact ⟨res_bad HE.out (by decide), hnx.alloc hsz _⟩
    ·have e1' : decide (m < 1) = false := decide_eq_false e1
     by_cases e2 : 4 < m
     ·have HE : Hid (formErr l = 4) := by
       have hd := HDEF.out
       rw [if_pos (.inr e2)] at hd
       show formErr l = 4
       rw [HB.out (by rw [hd]; decide), hd]
      go_wp2
      go_ret2
      exact ⟨res_bad HE.out (by decide), hnx.alloc hsz _⟩
     ·have e2' : decide (4 < m) = false := decide_eq_false e2
      by_cases e3 : keyErr r = 0
      ·have hok8 : rowOk r := vl_rowOk e3 ww1
       have HKS : Hid ((.string (keyS r) : Value) = .string ⟨(encR r).toArray⟩) := keyS_is hok8
       obtain ⟨ks, hks⟩ : ∃ s, keyS r = s := ⟨_, rfl⟩
       obtain ⟨pb, hpb⟩ : ∃ x, pairedAt l k = x := ⟨_, rfl⟩
       rw [hks] at KK HKS
       rw [hpb] at HPW HDEF
       have HPB : Hid (pairedAt l k = pb) := hpb
       clear hks hok8 hpb
       cases pb
       ·have HE : Hid (formErr l = 6) := by
         have hd := HDEF.out
         rw [if_neg (by omega), if_pos e3, if_neg (by decide)] at hd
         show formErr l = 6
         rw [HB.out (by rw [hd]; decide), hd]
        go_wp2_with (first
         | (go_at_call 51; refine (KK.out _ (rowAt_below HR.out (bR.alloc nR _))).mono ?_; rintro e wa ⟨rfl, hba⟩; have hla := (hnx.alloc hsz _).trans (hba.mono (by simp; omega)))
         | (go_at_call 93; refine (HPW.out _ hla).mono ?_; rintro e wb ⟨rfl, hbb⟩))
        go_ret2
        exact ⟨res_bad HE.out (by decide), hla.trans (hbb.mono hla.size)⟩
       ·have HE : Hid (chgOk l k) := chgErr_zero (by
         have hd := HDEF.out
         rw [if_neg (by omega), if_pos e3, if_pos rfl] at hd
         exact hd)
        go_wp2_with (first
         | (go_at_call 51; refine (KK.out _ (rowAt_below HR.out (bR.alloc nR _))).mono ?_; rintro e wa ⟨rfl, hba⟩; have hla := (hnx.alloc hsz _).trans (hba.mono (by simp; omega)); have hbw : Below wr.heap.size wr wa := (bR.alloc nR _).trans (hba.mono (by simp)))
         | (go_at_call 93; refine (HPW.out _ hla).mono ?_; rintro e wb ⟨rfl, hbb⟩; have hlb := hla.trans (hbb.mono hla.size); have HOB := own_below HO.out (hbw.trans (hbb.mono hbw.size)))
         | (at_builtin; refine append_str rfl (.tmp 43) (.tmp 45) rfl w.heap.size _ k _ rfl _ HOB _ _ rfl rfl (by omega) hlb.size ?_; intro v' w1 hown1 hgrow1))
        go_roundw
        case rel => exact ⟨k + 1, by omega, by go_num, by rw [HS.out, ← HKS.out]; exact hown1, below_app hlb hlb.size HOB hgrow1, fun i hi => by
         rcases Nat.lt_or_ge i k with h | h
         ·exact HA.out i h
         ·rw [show i = k by omega]; exact HE.out⟩
        case measure => simp [intOf]; omega
      ·have e3' : (keyErr r == 0) = false := by simpa using e3
       have HE : Hid (formErr l = keyErr r) := by
        have hd := HDEF.out
        rw [if_neg (by omega), if_neg e3] at hd
        show formErr l = keyErr r
        rw [HB.out (by rw [hd]; exact e3), hd]
       go_wp2_with (go_at_call 51; refine (KK.out _ (rowAt_below HR.out (bR.alloc nR _))).mono ?_; rintro e wa ⟨rfl, hba⟩; have hla := (hnx.alloc hsz _).trans (hba.mono (by simp; omega)))
       go_ret2
       exact ⟨res_bad HE.out e3, hla⟩
   ·have hkn : k = n := by omega
    have HT : Hid (l.take k = l) := List.take_of_length_le (by rw [HN.out]; omega)
    have HO2 : Hid (formOk l) := ⟨by rw [HN.out]; omega, fun i hi => HA.out i (by rw [HN.out] at hi; omega)⟩
    obtain ⟨ad, cap2, hv2, _⟩ := row_form HO.out
    subst hv2
    go_wp2
    go_ret2
    exact ⟨.inl ⟨ok_form HO2.out, HO2.out, ad, cap2, ret_sl (hkn.trans HN.out.symm), keys_cells (by have h := HO.out; rw [HT.out, hkn] at h; rw [HN.out]; exact h)⟩, hnx⟩
end Go.Proofs.YtbfbgdinhiglaaaGreat.ch
namespace Go.Proofs.YtbfbgdinhiglaaaGreat.ch
open Go.ChangeShapes Go.WideShapes Go.ChangeAt Go.RowKit Go.Maps Go.WideMaps
open vl
set_option linter.unusedVariables false
set_option linter.unusedSimpArgs false
end Go.Proofs.YtbfbgdinhiglaaaGreat.ch
namespace Go.Proofs.YtbfbgdinhiglaaaGreat.ch
open Go.ChangeShapes Go.WideShapes Go.ChangeAt Go.RowKit Go.Maps Go.WideMaps
open vl
set_option linter.unusedVariables false
set_option linter.unusedSimpArgs false
end Go.Proofs.YtbfbgdinhiglaaaGreat.ch
namespace Go.Proofs.YtbfbgdinhiglaaaGreat.ch
open Go.ChangeShapes Go.WideShapes Go.ChangeAt Go.RowKit Go.Maps Go.WideMaps
open vl
set_option linter.unusedVariables false
set_option linter.unusedSimpArgs false
instance : DecidableEq Cnt := fun a b => if h : a.r = b.r ∧ a.n = b.n then isTrue (by cases a; cases b; simp at h; simp [h]) else isFalse (fun e => h (by rw [e]; exact ⟨rfl, rfl⟩))
theorem take_eq_cnt {r1 r2 : List Cnt} {k : Nat} (h1 : k < r1.length) (h2 : k < r2.length) (h : r1.take k = r2.take k) (hk : r1.getD k default = r2.getD k default) : r1.take (k + 1) = r2.take (k + 1) := by
 rw [takeV r1 k h1, takeV r2 k h2, h, hk]
theorem ne_at {r1 r2 : List Cnt} {k : Nat} (hk : r1.getD k default ≠ r2.getD k default) : decide (r1 = r2) = false := decide_eq_false (fun e => hk (by rw [e]))
set_option maxHeartbeats 4000000 in
theorem sameViews_any (a1 a2 : Option Addr) (c1 c2 : Nat) (r1 r2 : List Cnt) (w : World) (h1 : viewAt w a1 r1) (h2 : viewAt w a2 r2) (x1 : wfView r1) (x2 : wfView r2) (l1 : r1.length ≤ 9223372036854775807) (l2 : r2.length ≤ 9223372036854775807) :
 Calls Tryz.prog 10 #[.slice a1 r1.length c1, .slice a2 r2.length c2] w fun e w' => e = .returned (.bool (decide (r1 = r2))) ∧ Below w.heap.size w w' := by
 by_cases hl : r1.length = r2.length
 ·obtain ⟨len, hlen⟩ : ∃ len, r1.length = len := ⟨_, rfl⟩
  have hlen2 : r2.length = len := by omega
  rw [hlen] at l1
  have HR : Hid (r1.length = len) := hlen
  have HR2 : Hid (r2.length = len) := hlen2
  rw [hlen, hlen2]
  clear hl l2 hlen hlen2
  go_enter Tryz.func10, Tryz.ntmps10
  go_wp2
  go_loopw [5] (fun i wr => ∃ k : Nat, k ≤ len ∧ i = .int .i64 k ∧ Below w.heap.size w wr ∧ r1.take k = r2.take k) (fun i _ => len - (intOf i).toNat)
  case atStart => exact ⟨0, Nat.zero_le _, rfl, bR, rfl⟩
  case round =>
   obtain ⟨k, hk, rfl, hnx, hall⟩ := hrel
   have HA : Hid (r1.take k = r2.take k) := hall
   clear hall
   by_cases hlt : k < len
   ·have hk1 : k < r1.length := by rw [HR.out]; exact hlt
    have hk2 : k < r2.length := by rw [HR2.out]; exact hlt
    obtain ⟨b1, o1, ra1, rc1, e1, p1, p2, p3⟩ := h1 k hk1
    obtain ⟨b2, o2, ra2, rc2, e2, y1, y2, y3⟩ := h2 k hk2
    subst e1 e2
    have z1 := (wfv_at x1 k hk1).2.1
    have z2 := (wfv_at x2 k hk2).2.1
    have q1 := cL hnx p1
    have HQ2 : Hid (vl.rowAt wr ra1 (r1.getD k default).r) := rowAt_below p2 hnx
    have q3 := cL hnx p3
    have s1 := cL hnx y1
    have HS2 : Hid (vl.rowAt wr ra2 (r2.getD k default).r) := rowAt_below y2 hnx
    have s3 := cL hnx y3
    clear p1 p2 p3 y1 y2 y3 h1 h2
    have HNE : Hid (r1.getD k default ≠ r2.getD k default → decide (r1 = r2) = false) := ne_at
    have HEQ : Hid (r1.getD k default = r2.getD k default → r1.take (k + 1) = r2.take (k + 1)) := take_eq_cnt hk1 hk2 HA.out
    obtain ⟨⟨ra, na⟩, hca⟩ : ∃ c, r1.getD k default = c := ⟨_, rfl⟩
    obtain ⟨⟨rb, nb⟩, hcb⟩ : ∃ c, r2.getD k default = c := ⟨_, rfl⟩
    rw [hca] at q1 q3 HQ2 HNE HEQ z1
    rw [hcb] at s1 s3 HS2 HNE HEQ z2
    clear hca hcb
    dsimp only at q1 q3 s1 s3 HQ2 HS2 z1 z2
    obtain ⟨la, hla⟩ : ∃ x, ra.length = x := ⟨_, rfl⟩
    obtain ⟨lb, hlb⟩ : ∃ x, rb.length = x := ⟨_, rfl⟩
    have KS : Hid (∀ w', Below wr.heap.size wr w' → Calls Tryz.prog 34 #[.slice ra1 la rc1, .slice ra2 lb rc2] w' fun e w'' => e = .returned (.bool (decide (ra = rb))) ∧ Below w'.heap.size w' w'') := fun w' hb => by
     rw [← hla, ← hlb]; exact same_any ra1 ra2 rc1 rc2 ra rb w' (rowAt_below HQ2.out hb) (rowAt_below HS2.out hb) z1 z2
    rw [hla] at q1
    rw [hlb] at s1
    clear hla hlb z1 z2
    have i1 : (0 : Int) ≤ (k : Int) := by omega
    have i2 : (k : Int) < (len : Int) := by omega
    have dr : Below wr.heap.size wr wr.drew := bR.drew
    by_cases t1 : na = nb
    ·subst t1
     by_cases t2 : ra = rb
     ·have HE : Hid (r1.take (k + 1) = r2.take (k + 1)) := HEQ.out (by rw [t2])
      rw [decide_eq_true t2] at KS
      go_wp2
      go_region_held3 (fun w' => w'.cell? ⟨b1, o1 + k * 2, none⟩ = some (.slice ra1 la rc1) ∧ w'.cell? ⟨b2, o2 + k * 2, none⟩ = some (.slice ra2 lb rc2) ∧ w'.cell? ⟨b1, o1 + k * 2 + 1, none⟩ = some (.int .i64 na) ∧ w'.cell? ⟨b2, o2 + k * 2 + 1, none⟩ = some (.int .i64 na)) (first | go_keep | exact ⟨cL hbq q1, cL hbq s1, cL hbq q3, cL hbq s3⟩)
       (first | (go_at_call 34; refine (KS.out wr.drew dr).mono ?_; rintro e wq ⟨rfl, hbq⟩))
      all_goals
       have hlq : Below w.heap.size w wq := hnx.drew.trans (hbq.mono hnx.size)
       go_wp2
       go_roundw
       case rel => exact ⟨k + 1, by omega, by go_num, hlq, HE.out⟩
       case measure => simp [intOf]; omega
     ·have HE : Hid (decide (r1 = r2) = false) := HNE.out (fun e => t2 (by cases e; rfl))
      rw [decide_eq_false t2] at KS
      go_wp2
      go_region_held3 (fun w' => w'.cell? ⟨b1, o1 + k * 2, none⟩ = some (.slice ra1 la rc1) ∧ w'.cell? ⟨b2, o2 + k * 2, none⟩ = some (.slice ra2 lb rc2) ∧ w'.cell? ⟨b1, o1 + k * 2 + 1, none⟩ = some (.int .i64 na) ∧ w'.cell? ⟨b2, o2 + k * 2 + 1, none⟩ = some (.int .i64 na)) (first | go_keep | exact ⟨cL hbq q1, cL hbq s1, cL hbq q3, cL hbq s3⟩)
       (first | (go_at_call 34; refine (KS.out wr.drew dr).mono ?_; rintro e wq ⟨rfl, hbq⟩))
      all_goals
       have hlq : Below w.heap.size w wq := hnx.drew.trans (hbq.mono hnx.size)
       go_wp2
       go_ret
       exact ⟨ret_bool HE.out.symm, hlq⟩
    ·have t1' : (na == nb) = false := by simpa using t1
     have t1n : ∀ t, binOp .neq t (.int .i64 na) (.int .i64 nb) = pure (.bool true) := fun t => by rw [binOp_neq, show (na != nb) = true by simpa using t1]
     have HE : Hid (decide (r1 = r2) = false) := HNE.out (fun e => t1 (by cases e; rfl))
     go_wp2
     go_quiet (fail)
     have hld := below_drewN hnx nq
     go_wp2
     go_ret
     exact ⟨ret_bool HE.out.symm, hld⟩
   ·have HT : Hid (decide (r1 = r2) = true) := decide_eq_true (by
     have h := HA.out
     rw [List.take_of_length_le (by rw [HR.out]; omega), List.take_of_length_le (by rw [HR2.out]; omega)] at h
     exact h)
    go_wp2
    go_ret
    exact ⟨ret_bool HT.out.symm, hnx⟩
 ·have hl' : ((r1.length : Int) == (r2.length : Int)) = false := by rw [beq_eq_false_iff_ne]; omega
  have HE : Hid (decide (r1 = r2) = false) := decide_eq_false (fun e => hl (by rw [e]))
  obtain ⟨n1, hn1⟩ : ∃ x, r1.length = x := ⟨_, rfl⟩
  obtain ⟨n2, hn2⟩ : ∃ x, r2.length = x := ⟨_, rfl⟩
  rw [hn1, hn2] at hl'
  rw [hn1, hn2]
  rw [hn1] at l1
  rw [hn2] at l2
  go_enter Tryz.func10, Tryz.ntmps10
  go_wp2
  go_ret
  exact ⟨ret_bool HE.out.symm, bR⟩
end Go.Proofs.YtbfbgdinhiglaaaGreat.ch
namespace Go.Proofs.YtbfbgdinhiglaaaGreat.ch
open Go.ChangeShapes Go.WideShapes Go.ChangeAt Go.RowKit Go.Maps Go.WideMaps
open vl
set_option linter.unusedVariables false
set_option linter.unusedSimpArgs false
instance : DecidableEq Chg := fun a b => if h : a.k = b.k ∧ a.r = b.r then isTrue (by cases a; cases b; simp at h; simp [h]) else isFalse (fun e => h (by rw [e]; exact ⟨rfl, rfl⟩))
theorem take_eq_chg {r1 r2 : List Chg} {k : Nat} (h1 : k < r1.length) (h2 : k < r2.length) (h : r1.take k = r2.take k) (hk : r1.getD k default = r2.getD k default) : r1.take (k + 1) = r2.take (k + 1) := by
 rw [takeC r1 k h1, takeC r2 k h2, h, hk]
theorem ne_chg {r1 r2 : List Chg} {k : Nat} (hk : r1.getD k default ≠ r2.getD k default) : decide (r1 = r2) = false := decide_eq_false (fun e => hk (by rw [e]))
theorem run_append_none {w : World} (base : Nat) (t ty e : TypeId) (i : TypeInfo) (size c : Nat) (ht : Tryz.prog.underlying t = some (.slice e)) (hi : Tryz.prog.info? e = some i)
 (v : Value) (n : Nat) (xs : List Value) (hown : w.ownsRow base e size v n xs) : (Builtin.append_ #[t, t] ty #[v, .slice none 0 c]).run Tryz.prog w = .ok v w := by
 rcases hown.2 with ⟨rfl, rfl⟩ | ⟨g, cap, cur, rfl, _, _, hnc, _⟩
 ·simp [Builtin.append_, run_underlying ht, sizeOf, typeInfo, hi, Builtin.lenOf, Builtin.firstCells]
 ·simp [Builtin.append_, run_underlying ht, sizeOf, typeInfo, hi, Builtin.lenOf, Builtin.firstCells, hnc, storeCells]
theorem wpList_append_none {w : World} {ops : Array Oper} {rest : List Oper} {o : Oper} {a : Act} {Q : Exit → Act → World → Prop} (hgd : o.guard = none) (s x : Operand) (t : TypeId)
 (ho : o.op = .call { callee := .builtin .append, args := #[s, x], argTypes := #[t, t] }) (base : Nat) (e : TypeId) (i : TypeInfo) (size c : Nat) (ht : Tryz.prog.underlying t = some (.slice e)) (hi : Tryz.prog.info? e = some i)
 (v : Value) (n : Nat) (xs : List Value) (hs : a.eval s = v) (hown : w.ownsRow base e size v n xs) (hx : a.eval x = .slice none 0 c)
 (h : wpList Tryz.prog ops Q rest (a.put o.dst v) w) : wpList Tryz.prog ops Q (o :: rest) a w := by
 refine wpList_plain hgd fun K hK => ?_
 have hrun := run_append_none (w := w) base t o.type e i size c ht hi v n xs hown
 unfold Oper.wp
 simp [execOp, ho, resolve, invoke, builtin, hs, hx, hrun, Result.andThen]
 exact hK _ _ h
theorem add_at (b off j : Nat) : (⟨b, off, none⟩ : Addr).add j = ⟨b, off + j, none⟩ := by unfold Addr.add; split <;> simp_all
theorem rowAt_cells {w : World} {b off : Nat} {r : List Cel} (h : vl.rowAt w (some ⟨b, off, none⟩) r) : ∀ j u, (celCells r)[j]? = some u → w.cell? ((⟨b, off, none⟩ : Addr).add j) = some u := by
 intro j u hu
 have hlen : j < (celCells r).length := by
  rcases Nat.lt_or_ge j (celCells r).length with h | h
  ·exact h
  ·rw [List.getElem?_eq_none h] at hu; cases hu
 rw [celCells_len] at hlen
 have hi : j / 3 < r.length := by omega
 obtain ⟨b', o', e, x1, x2, x3⟩ := h (j / 3) hi
 cases e
 obtain ⟨y1, y2, y3⟩ := celCells_at r (j / 3) hi
 rw [add_at]
 have hj : j = j / 3 * 3 ∨ j = j / 3 * 3 + 1 ∨ j = j / 3 * 3 + 1 + 1 := by omega
 rcases hj with e | e | e
 ·rw [e] at hu ⊢; rw [y1] at hu; rw [← hu]; exact x1
 ·rw [e] at hu ⊢; rw [y2] at hu; rw [← hu]; exact x2
 ·rw [e] at hu ⊢; rw [y3] at hu; rw [← hu]; exact x3
theorem celCells_one (r : List Cel) : ∀ u ∈ celCells r, u.oneCell' = true := by
 intro u hu
 unfold celCells at hu
 obtain ⟨c, _, hc⟩ := List.mem_flatMap.1 hu
 simp at hc
 rcases hc with rfl | rfl | rfl <;> rfl
set_option maxHeartbeats 1000000 in
theorem copy_any (a : Option Addr) (cap : Nat) (r : List Cel) (w : World) (hr : vl.rowAt w a r) (hl : r.length ≤ 1000000) :
 Calls Tryz.prog 65 #[.slice a r.length cap] w fun e w' => (∃ ad c, e = .returned (.slice ad r.length c) ∧ ownV w' w.heap.size (.slice ad r.length c) r) ∧ Below w.heap.size w w' := by
 obtain ⟨i0, hi, hz0, hz1, hz2⟩ := info_parts Tryz.infoV
 have HI : Hid (Tryz.prog.info? 68 = some i0 ∧ i0.zero = some (.agg #[.int .i64 0, .int .i64 0, .string ⟨#[]⟩]) ∧ i0.size = 3 ∧ i0.bytes = 32) := ⟨hi, hz0, hz1, hz2⟩
 clear hi hz0 hz1 hz2
 have HOW : Hid ((w.alloc (.cells #[] 68)).ownsRow w.heap.size 68 3 (.slice (some ⟨w.heap.size, 0, none⟩) 0 0) 0 []) := World.ownsRow_made w #[] 0 nR (Nat.zero_le _) rfl
 have hb0 : Below w.heap.size w (w.alloc (.cells #[] 68)) := bR.alloc nR _
 obtain ⟨n, hn⟩ : ∃ n, r.length = n := ⟨_, rfl⟩
 have HN : Hid (r.length = n) := hn
 cases a with
 | none =>
  have h0 : r = [] := by
   cases r with
   | nil => rfl
   | cons c r =>
    obtain ⟨_, _, e, _⟩ := hr 0 (by simp)
    cases e
  subst h0
  simp only [List.length_nil]
  clear hr hl hn HN
  go_enter Tryz.func65, Tryz.ntmps65
  go_wp2_with (at_builtin; refine wpList_append_none rfl (.tmp 3) (.tmp 4) 50 rfl w.heap.size 68 i0 3 cap Tryz.underlying50 HI.out.1 _ _ _ rfl HOW.out rfl ?_)
  go_ret
  exact ⟨⟨_, _, rfl, HOW.out⟩, hb0⟩
 | some x =>
  have hcel : ∀ j u, (celCells r)[j]? = some u → (w.alloc (.cells #[] 68)).cell? (x.add j) = some u := by
   intro j u hu
   have hlen : 0 < r.length := by
    rcases Nat.eq_zero_or_pos r.length with h | h
    ·rw [List.length_eq_zero_iff.1 h] at hu; cases hu
    ·exact h
   obtain ⟨b, o, e, _⟩ := hr 0 hlen
   cases e
   exact cL (bR.alloc nR _) (rowAt_cells hr j u hu)
  have HCE : Hid (∀ j u, (celCells r)[j]? = some u → (w.alloc (.cells #[] 68)).cell? (x.add j) = some u) := hcel
  rw [hn] at hl ⊢
  clear hcel hr hn
  go_enter Tryz.func65, Tryz.ntmps65
  go_wp2_with (at_builtin; refine wpList_append_own _ rfl (.tmp 3) (.tmp 4) 50 rfl w.heap.size 68 i0 (.agg #[.int .i64 0, .int .i64 0, .string ⟨#[]⟩]) 3 32 Tryz.underlying50 HI.out.1 HI.out.2.1 HI.out.2.2.1 HI.out.2.2.2 rfl (by decide) _ _ _ rfl HOW.out x n cap (celCells r) rfl (by rw [celCells_len, HN.out]) HCE.out (celCells_one r) (by unfold maxLen; omega) (by omega) (by simp) ?_; intro v2 w3 hown3 hgrow3 hnil3)
  rw [Nat.zero_add, List.nil_append] at hown3
  obtain ⟨ad, c2, hv, _⟩ := row_form hown3
  subst hv
  go_ret
  exact ⟨⟨ad, c2, rfl, by show w3.ownsRow _ _ _ _ r.length _; rw [HN.out]; exact hown3⟩, hb0.grown hgrow3 (by simp) (fun b hb => by cases hb; exact Nat.le_refl _)⟩
end Go.Proofs.YtbfbgdinhiglaaaGreat.ch
namespace Go.Proofs.YtbfbgdinhiglaaaGreat.ch
open Go.ChangeShapes Go.WideShapes Go.ChangeAt Go.RowKit Go.Maps Go.WideMaps
open vl
set_option linter.unusedVariables false
set_option linter.unusedSimpArgs false
theorem ret_ferr {a b : Int} (h : a = b) : Ending.returned (.int .i64 a) = .returned (.int .i64 b) := by rw [h]
theorem sign_any (k : Int) (ra : Option Addr) (rl rc : Nat) (w : World) : Calls Tryz.prog 89 #[.agg #[.int .i64 k, .slice ra rl rc]] w fun e w' => e = .returned (.int .i64 (moreOf k)) ∧ Below w.heap.size w w' := by
 by_cases h1 : k = 1
 ·subst h1
  go_enter Tryz.func89, Tryz.ntmps89
  go_wp2
  go_ret
  exact ⟨rfl, bR.alloc nR _⟩
 ·have h1' : (k == 1) = false := by simpa using h1
  by_cases h2 : k = 4
  ·subst h2
   go_enter Tryz.func89, Tryz.ntmps89
   go_wp2
   go_ret
   exact ⟨rfl, bR.alloc nR _⟩
  ·have h2' : (k == 4) = false := by simpa using h2
   have e : moreOf k = -1 := by unfold moreOf; rw [if_neg (by omega)]
   rw [e]
   go_enter Tryz.func89, Tryz.ntmps89
   go_wp2
   go_ret
   exact ⟨rfl, bR.alloc nR _⟩
set_option maxRecDepth 100000 in
set_option maxHeartbeats 8000000 in
theorem formOf_any (a : Option Addr) (cap : Nat) (l : List Chg) (w : World) (hv : chgsAt w a l) (hw : wfChgs l) (hl : l.length ≤ 9223372036854775807) :
 Calls Tryz.prog 41 #[.slice a l.length cap] w fun e w' => e = .returned (.int .i64 (formErr l)) ∧ Below w.heap.size w w' := by
 obtain ⟨n, hn⟩ : ∃ n, l.length = n := ⟨_, rfl⟩
 have HN : Hid (l.length = n) := hn
 rw [hn] at hl ⊢
 clear hn
 by_cases h4 : 4096 < n
 ·have HE : Hid (formErr l = 2) := formErr_many (by rw [HN.out]; exact h4)
  go_enter Tryz.func41, Tryz.ntmps41
  go_wp2
  go_ret
  exact ⟨ret_ferr HE.out.symm, bR⟩
 ·have HV : Hid (chgsAt w a l) := hv
  clear hv
  go_enter Tryz.func41, Tryz.ntmps41
  go_wp2
  go_loopw [3] (fun i wr => ∃ k : Nat, k ≤ n ∧ i = .int .i64 k ∧ Below w.heap.size w wr ∧ (∀ i, i < k → chgOk l i)) (fun i _ => n - (intOf i).toNat)
  case atStart => exact ⟨0, by omega, rfl, bR, fun i hi => absurd hi (Nat.not_lt_zero i)⟩
  case round =>
   obtain ⟨k, hk, rfl, hnx, hall⟩ := hrel
   have HA : Hid (∀ i, i < k → chgOk l i) := hall
   clear hall
   by_cases hlt : k < n
   ·have hkl : k < l.length := by rw [HN.out]; exact hlt
    obtain ⟨b, o, ra, rc, e, x1, x2, x3⟩ := HV.out k hkl
    subst e
    obtain ⟨ww1, ww2, ww3, ww4⟩ := wfc_at hw k hkl
    have HCELL : Hid (∀ j, j < n → wr.cell? ⟨b, o + j * 2, none⟩ = some (.int .i64 (l.getD j default).k)) := fun j hj => by
     obtain ⟨b', o', ra', rc', e', y1, _, _⟩ := HV.out j (by rw [HN.out]; exact hj)
     cases e'
     exact cL hnx y1
    have q1 := cL hnx x1
    have q2 := cL hnx x2
    have HR : Hid (vl.rowAt wr ra (l.getD k default).r) := rowAt_below x3 hnx
    have i1 : (0 : Int) ≤ (k : Int) := by omega
    have i2 : (k : Int) < (n : Int) := by omega
    have HB : Hid (chgErr l k ≠ 0 → formErr l = chgErr l k) := fun he => formErr_at (by rw [HN.out]; exact h4) k hkl HA.out he
    have HDEF : Hid (chgErr l k = if (l.getD k default).k < 1 ∨ 4 < (l.getD k default).k then 4 else if keyErr (l.getD k default).r = 0 then (if pairedAt l k then 0 else 6) else keyErr (l.getD k default).r) := rfl
    have HPD : Hid (pairedAt l k = if (l.getD k default).k = 3 then decide (k + 1 < n) && decide ((l.getD (k + 1) default).k = 4) else if (l.getD k default).k = 4 then decide (0 < k) && decide ((l.getD (k - 1) default).k = 3) else true) := by
     show pairedAt l k = _
     rw [← HN.out]; rfl
    obtain ⟨⟨m, r⟩, hcv⟩ : ∃ c, l.getD k default = c := ⟨_, rfl⟩
    rw [hcv] at q1 q2 HR HDEF HPD ww1 ww2 ww3 ww4
    dsimp only at q1 q2 HR HDEF HPD ww1 ww2 ww3 ww4
    clear x1 x2 x3 hcv
    obtain ⟨rl, hrl⟩ : ∃ l, r.length = l := ⟨_, rfl⟩
    rw [hrl] at q2
    have KK : Hid (∀ w, vl.rowAt w ra r → Calls Tryz.prog 23 #[.slice ra rl rc] w fun e w' => e = .returned (.int .i64 (keyErr r)) ∧ Below w.heap.size w w') := by
     subst hrl; exact fun w h => keyError_any ra rc r w h ww1 ww2
    obtain ⟨ke, hke⟩ : ∃ z, keyErr r = z := ⟨_, rfl⟩
    rw [hke] at KK HDEF
    clear hke hrl
    by_cases e1 : m < 1
    ·have HE : Hid (formErr l = 4) := by
      have hd := HDEF.out
      rw [if_pos (.inl e1)] at hd
      show formErr l = 4
      rw [HB.out (by rw [hd]; decide), hd]
     go_wp2
     go_ret
     exact ⟨ret_ferr HE.out.symm, hnx⟩
    ·by_cases e2 : 4 < m
     ·have HE : Hid (formErr l = 4) := by
       have hd := HDEF.out
       rw [if_pos (.inr e2)] at hd
       show formErr l = 4
       rw [HB.out (by rw [hd]; decide), hd]
      go_wp2
      go_ret
      exact ⟨ret_ferr HE.out.symm, hnx⟩
     ·by_cases e3 : ke = 0
      ·subst e3
       have HBAD : Hid (pairedAt l k = false → formErr l = 6) := fun hp => by
        have hd := HDEF.out
        rw [if_neg (by omega), if_pos rfl, hp, if_neg (by decide)] at hd
        rw [HB.out (by rw [hd]; decide), hd]
       have HGOOD : Hid (pairedAt l k = true → chgOk l k) := fun hp => chgErr_zero (by
        have hd := HDEF.out
        rw [if_neg (by omega), if_pos rfl, hp, if_pos rfl] at hd
        exact hd)
       by_cases m3 : m = 3
       ·subst m3
        by_cases hk1 : k + 1 < n
        ·have y1 := HCELL.out (k + 1) hk1
         obtain ⟨k2, hk2⟩ : ∃ z, (l.getD (k + 1) default).k = z := ⟨_, rfl⟩
         rw [hk2] at y1 HPD
         have hne : (((k : Int) + 1) == (n : Int)) = false := by rw [beq_eq_false_iff_ne]; omega
         have hwk : IntKind.i64.wrap ((k : Int) + 1) = (k : Int) + 1 := by rw [wrap_is]; omega
         have j1 : (0 : Int) ≤ (k : Int) + 1 := by omega
         have j2 : (k : Int) + 1 < (n : Int) := by omega
         by_cases k24 : k2 = 4
         ·subst k24
          have HP : Hid (pairedAt l k = true) := by show _ = _; rw [HPD.out, if_pos rfl, decide_eq_true hk1]; rfl
          go_wp2_with (go_at_call 23; refine (KK.out _ HR.out).mono ?_; rintro e wa ⟨rfl, hba⟩; have q1a := cL hba q1; have y1a := cL hba y1)
          go_roundw
          case rel => exact ⟨k + 1, by omega, by go_num, hnx.trans (hba.mono hnx.size), fun i hi => by
           rcases Nat.lt_or_ge i k with h | h
           ·exact HA.out i h
           ·rw [show i = k by omega]; exact HGOOD.out HP.out⟩
          case measure => simp [intOf]; omega
         ·have k24' : (k2 == 4) = false := by simpa using k24
          have k24n : (k2 != 4) = true := by simpa using k24
          have HP : Hid (pairedAt l k = false) := by show _ = _; rw [HPD.out, if_pos rfl, decide_eq_true hk1, decide_eq_false k24]; rfl
          go_wp2_with (go_at_call 23; refine (KK.out _ HR.out).mono ?_; rintro e wa ⟨rfl, hba⟩; have q1a := cL hba q1; have y1a := cL hba y1)
          go_ret
          exact ⟨ret_ferr (HBAD.out HP.out).symm, hnx.trans (hba.mono hnx.size)⟩
        ·have hkn : (k : Int) + 1 = (n : Int) := by omega
         have hne : (((k : Int) + 1) == (n : Int)) = true := by rw [beq_iff_eq]; exact hkn
         have hwk : IntKind.i64.wrap ((k : Int) + 1) = (k : Int) + 1 := by rw [wrap_is]; omega
         have HP : Hid (pairedAt l k = false) := by show _ = _; rw [HPD.out, if_pos rfl, decide_eq_false hk1]; rfl
         clear hkn
         go_wp2_with (go_at_call 23; refine (KK.out _ HR.out).mono ?_; rintro e wa ⟨rfl, hba⟩; have q1a := cL hba q1)
         go_ret
         exact ⟨ret_ferr (HBAD.out HP.out).symm, hnx.trans (hba.mono hnx.size)⟩
       ·have m3' : (m == 3) = false := by simpa using m3
        by_cases m4 : m = 4
        ·subst m4
         by_cases hk0 : k = 0
         ·subst hk0
          simp only [Nat.zero_mul, Nat.add_zero] at q1 q2
          have HP : Hid (pairedAt l 0 = false) := by show _ = _; rw [HPD.out, if_neg (by decide), if_pos rfl]; rfl
          go_wp2_with (go_at_call 23; refine (KK.out _ HR.out).mono ?_; rintro e wa ⟨rfl, hba⟩; have q1a := cL hba q1)
          go_ret
          exact ⟨ret_ferr (HBAD.out HP.out).symm, hnx.trans (hba.mono hnx.size)⟩
         ·obtain ⟨j, rfl⟩ : ∃ j, k = j + 1 := ⟨k - 1, by omega⟩
          have y1 := HCELL.out j (by omega)
          rw [show j + 1 - 1 = j by omega] at HPD
          obtain ⟨k2, hk2⟩ : ∃ z, (l.getD j default).k = z := ⟨_, rfl⟩
          rw [hk2] at y1 HPD
          have j0 : (((j : Int) + 1) == 0) = false := by rw [beq_eq_false_iff_ne]; omega
          have hwj1 : IntKind.i64.wrap ((j : Int) + 1 - 1) = (j : Int) := by rw [wrap_is]; omega
          have hwj2 : IntKind.i64.wrap (j : Int) = (j : Int) := by rw [wrap_is]; omega
          have j1 : (0 : Int) ≤ (j : Int) := by omega
          have j2 : (j : Int) < (n : Int) := by omega
          have j3 : (0 : Int) ≤ (j : Int) + 1 := by omega
          have j4 : (j : Int) + 1 < (n : Int) := by omega
          by_cases k23 : k2 = 3
          ·subst k23
           have HP : Hid (pairedAt l (j + 1) = true) := by show _ = _; rw [HPD.out, if_neg (by decide), if_pos rfl, decide_eq_true (by omega : 0 < j + 1)]; rfl
           go_wp2_with (go_at_call 23; refine (KK.out _ HR.out).mono ?_; rintro e wa ⟨rfl, hba⟩; have q1a := cL hba q1; have y1a := cL hba y1)
           go_roundw
           case rel => exact ⟨j + 1 + 1, by omega, by go_num, hnx.trans (hba.mono hnx.size), fun i hi => by
            rcases Nat.lt_or_ge i (j + 1) with h | h
            ·exact HA.out i h
            ·rw [show i = j + 1 by omega]; exact HGOOD.out HP.out⟩
           case measure => simp [intOf]; omega
          ·have k23' : (k2 == 3) = false := by simpa using k23
           have k23n : (k2 != 3) = true := by simpa using k23
           have HP : Hid (pairedAt l (j + 1) = false) := by show _ = _; rw [HPD.out, if_neg (by decide), if_pos rfl, decide_eq_true (by omega : 0 < j + 1), decide_eq_false k23]; rfl
           go_wp2_with (go_at_call 23; refine (KK.out _ HR.out).mono ?_; rintro e wa ⟨rfl, hba⟩; have q1a := cL hba q1; have y1a := cL hba y1)
           go_ret
           exact ⟨ret_ferr (HBAD.out HP.out).symm, hnx.trans (hba.mono hnx.size)⟩
        ·have m4' : (m == 4) = false := by simpa using m4
         have HP : Hid (pairedAt l k = true) := by show _ = _; rw [HPD.out, if_neg m3, if_neg m4]
         go_wp2_with (go_at_call 23; refine (KK.out _ HR.out).mono ?_; rintro e wa ⟨rfl, hba⟩; have q1a := cL hba q1)
         go_roundw
         case rel => exact ⟨k + 1, by omega, by go_num, hnx.trans (hba.mono hnx.size), fun i hi => by
          rcases Nat.lt_or_ge i k with h | h
          ·exact HA.out i h
          ·rw [show i = k by omega]; exact HGOOD.out HP.out⟩
         case measure => simp [intOf]; omega
      ·have e3' : (ke == 0) = false := by simpa using e3
       have HE : Hid (formErr l = ke) := by
        have hd := HDEF.out
        rw [if_neg (by omega), if_neg e3] at hd
        show formErr l = ke
        rw [HB.out (by rw [hd]; exact e3), hd]
       go_wp2_with (go_at_call 23; refine (KK.out _ HR.out).mono ?_; rintro e wa ⟨rfl, hba⟩)
       go_ret
       exact ⟨ret_ferr HE.out.symm, hnx.trans (hba.mono hnx.size)⟩
   ·have HO2 : Hid (formOk l) := ⟨by rw [HN.out]; omega, fun i hi => HA.out i (by rw [HN.out] at hi; omega)⟩
    go_wp2
    go_ret
    exact ⟨ret_ferr (ok_form HO2.out).symm, hnx⟩
end Go.Proofs.YtbfbgdinhiglaaaGreat.ch
