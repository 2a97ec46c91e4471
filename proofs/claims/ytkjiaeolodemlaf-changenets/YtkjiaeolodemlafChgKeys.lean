/- keysOf: the keys of changes' rows, or what is wrong with the changes. -/
import Derived.Test.YtkjiaeolodemlafChgForm
namespace Go.Proofs.Ytkjiaeolodemlaf.ch
open Go.ChangeShapes Go.WideShapes Go.ChangeAt Go.RowKit Go.Maps Go.WideMaps
open vl
set_option linter.unusedVariables false
set_option linter.unusedSimpArgs false

theorem info9 : (Try.prog.info? 9).map (fun i => (i.zero, i.size, i.bytes)) = some (some (.string ⟨#[]⟩), 1, 16) := by kernel_rfl
def keyV (c : Chg) : Value := .string ⟨(encR c.r).toArray⟩
theorem keyS_is {r : List Cel} (h : rowOk r) : (.string (keyS r) : Value) = .string ⟨(encR r).toArray⟩ := by
  rw [← keyS_ok h]
theorem append_str {ops : Array Oper} {rest : List Oper} {o : Oper} {a : Act} {Q : Exit → Act → World → Prop} (hgd : o.guard = none) (s x : Operand)
    (ho : o.op = .call { callee := .builtin .append, args := #[s, x], argTypes := #[60, 60] }) (base : Nat) (v : Value) (n : Nat) (xs : List Value) (hs : a.eval s = v) (w0 : World)
    (hown : w0.ownsRow base 9 1 v n xs) (X : ByteArray) (B : Nat) (hB : w0.heap.size = B) (hx : a.eval x = .slice (some ⟨B, 0, none⟩) 1 1) (hl : n ≤ 2000000) (hb : base ≤ w0.heap.size)
    (h : ∀ v' w', w'.ownsRow base 9 1 v' (n + 1) (xs ++ [.string X]) → (w0.alloc (.cells #[.string X] 9)).grownBy w' v.ownBlock → wpList Try.prog ops Q rest (a.put o.dst v') w') :
    wpList Try.prog ops Q (o :: rest) a (w0.alloc (.cells #[.string X] 9)) := by
  subst hB
  obtain ⟨i0, hi, hz0, hz1, hz2⟩ := info_parts info9
  refine wpList_append_own _ hgd s x 60 ho base 9 i0 (.string ⟨#[]⟩) 1 16 Try.underlying60 hi hz0 hz1 hz2 rfl (by decide) v n xs hs
    (World.ownsRow.alloc hown _) ⟨w0.heap.size, 0, none⟩ 1 1 [.string X] hx rfl (cell_one_new _ _ _) (by intro u hu; simp at hu; subst hu; rfl) (by unfold maxLen; omega) (by omega) (by simp; omega) ?_
  intro v' w' h1 h2 _
  exact h v' w' h1 h2
theorem below_app {base : Nat} {w w0 w' : World} {e : TypeId} {size n : Nat} {xs : List Value} {v : Value} {o : Obj} (hb : Below base w w0) (h0 : base ≤ w0.heap.size) (hown : w0.ownsRow base e size v n xs) (hg : (w0.alloc o).grownBy w' v.ownBlock) : Below base w w' :=
  (hb.alloc h0 o).grown hg (by simp; omega) (fun k hk => (World.ownsRow.lt hown k hk).1)
theorem formErr_many {l : List Chg} (h : 4096 < l.length) : formErr l = 2 := by unfold formErr; rw [if_pos h]
theorem formErr_at {l : List Chg} (h1 : ¬ 4096 < l.length) (k : Nat) (hk : k < l.length) (h : ∀ i, i < k → chgOk l i) (he : chgErr l k ≠ 0) : formErr l = chgErr l k := by
  unfold formErr; rw [if_neg h1, first_is _ (fun i hi => chgErr_ok (h i hi)) he hk]
theorem takeC (l : List Chg) (k : Nat) (h : k < l.length) : l.take (k + 1) = l.take k ++ [l.getD k default] := by
  rw [List.take_succ_eq_append_getElem h]; simp [List.getD_eq_getElem?_getD, h]
theorem keys_cells {w : World} {base : Nat} {ad : Option Addr} {cap : Nat} {l : List Chg} (h : w.ownsRow base 9 1 (.slice ad l.length cap) l.length (l.map keyV)) : keysAt w ad l := by
  intro i hi
  obtain ⟨ad', cap', hv, hg⟩ := row_form h
  cases hv
  obtain ⟨g, rfl⟩ := hg (by omega)
  refine ⟨g, rfl, ?_⟩
  have h1 := World.ownsRow.cells h (g := g) rfl i (.string ⟨(encR (l.getD i default).r).toArray⟩) (by
    simp [List.getElem?_map, List.getElem?_eq_getElem hi, List.getD_eq_getElem?_getD, keyV])
  have e : (⟨g, 0, none⟩ : Addr).add i = ⟨g, i, none⟩ := by unfold Addr.add; split <;> simp_all
  rw [e] at h1
  exact h1
theorem ret_str {a b : Int} (h : a = b) : Ending.returned (.tuple #[.slice none 0 0, .int .i64 a]) = .returned (.tuple #[.slice none 0 0, .int .i64 b]) := by rw [h]

theorem ret_sl {ad : Option Addr} {cap a b : Nat} (h : a = b) : Ending.returned (.tuple #[.slice ad a cap, .int .i64 0]) = .returned (.tuple #[.slice ad b cap, .int .i64 0]) := by rw [h]

def keysRes (l : List Chg) (e : Ending) (w' : World) : Prop :=
  (formErr l = 0 ∧ formOk l ∧ ∃ ad cap, e = .returned (.tuple #[.slice ad l.length cap, .int .i64 0]) ∧ keysAt w' ad l) ∨
  (formErr l ≠ 0 ∧ e = .returned (.tuple #[.slice none 0 0, .int .i64 (formErr l)]))
theorem res_bad {l : List Chg} {w' : World} {x : Int} (h : formErr l = x) (hx : x ≠ 0) : keysRes l (.returned (.tuple #[.slice none 0 0, .int .i64 x])) w' := .inr ⟨by rw [h]; exact hx, ret_str h.symm⟩

set_option maxRecDepth 100000 in
set_option maxHeartbeats 8000000 in
theorem keysOf_any (a : Option Addr) (cap : Nat) (l : List Chg) (w : World) (hv : chgsAt w a l) (hw : wfChgs l) (hl : l.length ≤ 9223372036854775807) :
    Calls Try.prog 29 #[.slice a l.length cap] w fun e w' => keysRes l e w' ∧ Below w.heap.size w w' := by
  have KP : Hid (∀ w, chgsAt w a l → l.length ≤ 1000000 → ∀ i, i < l.length → Calls Try.prog 45 #[.slice a l.length cap, .int .i64 i] w fun e w' => e = .returned (.bool (pairedAt l i)) ∧ Below w.heap.size w w') := fun w h hl i hi => paired_any a cap l i w h hw hl hi
  obtain ⟨n, hn⟩ : ∃ n, l.length = n := ⟨_, rfl⟩
  have HN : Hid (l.length = n) := hn
  rw [hn] at hl KP ⊢
  clear hn
  by_cases h4 : 4096 < n
  · have HE : Hid (formErr l = 2) := formErr_many (by rw [HN.out]; exact h4)
    go_enter Try.func29, Try.ntmps29
    go_wp2
    go_ret2
    exact ⟨res_bad HE.out (by decide), Below.refl _ _⟩
  · obtain ⟨i0, hi, hz0, hz1, hz2⟩ := info_parts info9
    obtain ⟨wm, hmk, hown, hgr⟩ := run_make_own (P := Try.prog) w w.heap.size 60 9 i0 (.string ⟨#[]⟩) 1 Try.underlying60 hi hz0 hz1 .i64 .i64 n (by rw [hz2]; omega) (by unfold maxLen; omega) (Nat.le_refl _)
    have hbm : Below w.heap.size w wm := (Below.refl _ _).grown hgr (Nat.le_refl _) (fun k hk => by cases hk)
    have HOWN : Hid (wm.ownsRow w.heap.size 9 1 (.slice (some ⟨w.heap.size, 0, none⟩) 0 n) 0 []) := hown
    have HV : Hid (chgsAt w a l) := hv
    clear hi hz0 hz1 hz2 hown hgr hv
    go_enter Try.func29, Try.ntmps29
    go_wp2
    go_loopw [4, 17] (fun v i wr => ∃ k : Nat, k ≤ n ∧ i = .int .i64 k ∧ wr.ownsRow w.heap.size 9 1 v k ((l.take k).map keyV) ∧ Below w.heap.size w wr ∧ (∀ i, i < k → chgOk l i)) (fun _ i _ => n - (intOf i).toNat)
    case atStart => exact ⟨0, by omega, rfl, HOWN.out, hbm, fun i hi => absurd hi (Nat.not_lt_zero i)⟩
    case round =>
      obtain ⟨k, hk, rfl, hown, hnx, hall⟩ := hrel
      have HO : Hid (wr.ownsRow w.heap.size 9 1 u4 k ((l.take k).map keyV)) := hown
      have HA : Hid (∀ i, i < k → chgOk l i) := hall
      have hsz := hnx.size
      clear hown hall
      by_cases hlt : k < n
      · have hkl : k < l.length := by rw [HN.out]; exact hlt
        obtain ⟨b, o, ra, rc, e, x1, x2, x3⟩ := HV.out k hkl
        subst e
        obtain ⟨ww1, ww2, ww3, ww4⟩ := wfc_at hw k hkl
        have q1 := cell_later hnx x1
        have q2 := cell_later hnx x2
        have HR : Hid (vl.rowAt wr ra (l.getD k default).r) := rowAt_below x3 hnx
        have i1 : (0 : Int) ≤ (k : Int) := by omega
        have i2 : (k : Int) < (n : Int) := by omega
        have HB : Hid (chgErr l k ≠ 0 → formErr l = chgErr l k) := fun he => formErr_at (by rw [HN.out]; exact h4) k hkl HA.out he
        have HS : Hid ((l.take (k + 1)).map keyV = (l.take k).map keyV ++ [.string ⟨(encR (l.getD k default).r).toArray⟩]) := by
          show (l.take (k + 1)).map keyV = _
          rw [takeC l k hkl, List.map_append]; rfl
        have HDEF : Hid (chgErr l k = if (l.getD k default).k < 1 ∨ 4 < (l.getD k default).k then 4 else if keyErr (l.getD k default).r = 0 then (if pairedAt l k then 0 else 6) else keyErr (l.getD k default).r) := rfl
        have HPW : Hid (∀ w', Below w.heap.size w w' → Calls Try.prog 45 #[.slice (some ⟨b, o, none⟩) n cap, .int .i64 k] w' fun e w'' => e = .returned (.bool (pairedAt l k)) ∧ Below w'.heap.size w' w'') := fun w' hb => KP.out w' (chgsAt_below HV.out hb) (by omega) k hlt
        obtain ⟨⟨m, r⟩, hcv⟩ : ∃ c, l.getD k default = c := ⟨_, rfl⟩
        rw [hcv] at q1 q2 HR HS HDEF ww1 ww2 ww3 ww4
        dsimp only at q1 q2 HR HS HDEF ww1 ww2 ww3 ww4
        clear x1 x2 x3 hcv
        obtain ⟨rl, hrl⟩ : ∃ l, r.length = l := ⟨_, rfl⟩
        rw [hrl] at q2
        have KK : Hid (∀ w, vl.rowAt w ra r → Calls Try.prog 39 #[.slice ra rl rc] w fun e w' => e = .returned (.tuple #[.string (keyS r), .int .i64 (keyErr r)]) ∧ Below w.heap.size w w') := by
          subst hrl; exact fun w h => key_any ra rc r w h ww1 ww2
        by_cases e1 : m < 1
        · have HE : Hid (formErr l = 4) := by
            have hd := HDEF.out
            rw [if_pos (.inl e1)] at hd
            show formErr l = 4
            rw [HB.out (by rw [hd]; decide), hd]
          go_wp2
          go_ret2
          exact ⟨res_bad HE.out (by decide), hnx.alloc hsz _⟩
        · have e1' : decide (m < 1) = false := decide_eq_false e1
          by_cases e2 : 4 < m
          · have HE : Hid (formErr l = 4) := by
              have hd := HDEF.out
              rw [if_pos (.inr e2)] at hd
              show formErr l = 4
              rw [HB.out (by rw [hd]; decide), hd]
            go_wp2
            go_ret2
            exact ⟨res_bad HE.out (by decide), hnx.alloc hsz _⟩
          · have e2' : decide (4 < m) = false := decide_eq_false e2
            by_cases e3 : keyErr r = 0
            · have hok8 : rowOk r := vl_rowOk e3 ww1
              have HKS : Hid ((.string (keyS r) : Value) = .string ⟨(encR r).toArray⟩) := keyS_is hok8
              obtain ⟨ks, hks⟩ : ∃ s, keyS r = s := ⟨_, rfl⟩
              obtain ⟨pb, hpb⟩ : ∃ x, pairedAt l k = x := ⟨_, rfl⟩
              rw [hks] at KK HKS
              rw [hpb] at HPW HDEF
              have HPB : Hid (pairedAt l k = pb) := hpb
              clear hks hok8 hpb
              cases pb
              · have HE : Hid (formErr l = 6) := by
                  have hd := HDEF.out
                  rw [if_neg (by omega), if_pos e3, if_neg (by decide)] at hd
                  show formErr l = 6
                  rw [HB.out (by rw [hd]; decide), hd]
                go_wp2_with (first
                  | (go_at_call 39; refine (KK.out _ (rowAt_below HR.out ((Below.refl _ _).alloc (Nat.le_refl _) _))).mono ?_; rintro e wa ⟨rfl, hba⟩; have hla := (hnx.alloc hsz _).trans (hba.mono (by simp; omega)))
                  | (go_at_call 45; refine (HPW.out _ hla).mono ?_; rintro e wb ⟨rfl, hbb⟩))
                go_ret2
                exact ⟨res_bad HE.out (by decide), hla.trans (hbb.mono hla.size)⟩
              · have HE : Hid (chgOk l k) := chgErr_zero (by
                  have hd := HDEF.out
                  rw [if_neg (by omega), if_pos e3, if_pos rfl] at hd
                  exact hd)
                go_wp2_with (first
                  | (go_at_call 39; refine (KK.out _ (rowAt_below HR.out ((Below.refl _ _).alloc (Nat.le_refl _) _))).mono ?_; rintro e wa ⟨rfl, hba⟩; have hla := (hnx.alloc hsz _).trans (hba.mono (by simp; omega)); have hbw : Below wr.heap.size wr wa := ((Below.refl _ _).alloc (Nat.le_refl _) _).trans (hba.mono (by simp)))
                  | (go_at_call 45; refine (HPW.out _ hla).mono ?_; rintro e wb ⟨rfl, hbb⟩; have hlb := hla.trans (hbb.mono hla.size); have HOB := own_below HO.out (hbw.trans (hbb.mono hbw.size)))
                  | (at_builtin; refine append_str rfl (.tmp 43) (.tmp 45) rfl w.heap.size _ k _ rfl _ HOB _ _ rfl rfl (by omega) hlb.size ?_; intro v' w1 hown1 hgrow1))
                go_roundw
                case rel => exact ⟨k + 1, by omega, by go_num, by rw [HS.out, ← HKS.out]; exact hown1, below_app hlb hlb.size HOB hgrow1, fun i hi => by
                  rcases Nat.lt_or_ge i k with h | h
                  · exact HA.out i h
                  · rw [show i = k by omega]; exact HE.out⟩
                case measure => simp [intOf]; omega
            · have e3' : (keyErr r == 0) = false := by simpa using e3
              have HE : Hid (formErr l = keyErr r) := by
                have hd := HDEF.out
                rw [if_neg (by omega), if_neg e3] at hd
                show formErr l = keyErr r
                rw [HB.out (by rw [hd]; exact e3), hd]
              go_wp2_with (go_at_call 39; refine (KK.out _ (rowAt_below HR.out ((Below.refl _ _).alloc (Nat.le_refl _) _))).mono ?_; rintro e wa ⟨rfl, hba⟩; have hla := (hnx.alloc hsz _).trans (hba.mono (by simp; omega)))
              go_ret2
              exact ⟨res_bad HE.out e3, hla⟩
      · have hkn : k = n := by omega
        have HT : Hid (l.take k = l) := List.take_of_length_le (by rw [HN.out]; omega)
        have HO2 : Hid (formOk l) := ⟨by rw [HN.out]; omega, fun i hi => HA.out i (by rw [HN.out] at hi; omega)⟩
        obtain ⟨ad, cap2, hv2, _⟩ := row_form HO.out
        subst hv2
        go_wp2
        go_ret2
        exact ⟨.inl ⟨ok_form HO2.out, HO2.out, ad, cap2, ret_sl (hkn.trans HN.out.symm), keys_cells (by have h := HO.out; rw [HT.out, hkn] at h; rw [HN.out]; exact h)⟩, hnx⟩
end Go.Proofs.Ytkjiaeolodemlaf.ch
