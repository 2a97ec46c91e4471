/- The document's UndoOf. -/
import Derived.Test.YtkjiaeolodemlafChgNetOf
namespace Go.Proofs.Ytkjiaeolodemlaf.ch
open Go.ChangeShapes Go.WideShapes Go.ChangeAt Go.RowKit Go.Maps Go.WideMaps
open vl
set_option linter.unusedVariables false
set_option linter.unusedSimpArgs false


set_option maxRecDepth 100000 in
set_option maxHeartbeats 8000000 in
theorem undoOf_any (c : Option Addr) (cc : Nat) (l : List Chg) (w : World) (hc : chgsAt w c l) (hwl : wfChgs l) (hf : formOk l) :
    Calls Try.prog 16 #[.slice c l.length cc] w fun e w' => (∃ ad cap, e = .returned (.slice ad (backL l).length cap) ∧ chgsAt w' ad (backL l)) ∧ Below w.heap.size w w' := by
  have HC : Hid (chgsAt w c l) := hc
  have HFO : Hid (formOk l) := hf
  have hn4 := hf.1
  obtain ⟨n, hn⟩ : ∃ n, l.length = n := ⟨_, rfl⟩
  have HN : Hid (l.length = n) := hn
  rw [hn] at hn4 ⊢
  clear hc hf hn
  have hwn : IntKind.i64.wrap ((n : Int) - 1) = (n : Int) - 1 := by rw [wrap_is]; omega
  have HOS : Hid (OS w w.heap.size (.slice none 0 0) []) := ⟨Nat.le_refl _, [], rfl, World.ownsRow_nil _ _ _ _, fun i hi => absurd hi (Nat.not_lt_zero i)⟩
  go_enter Try.func16, Try.ntmps16
  go_wp2
  go_loopw [3, 4] (fun v i wr => ∃ (j : Nat) (x : Int), j ≤ n ∧ x = (j : Int) - 1 ∧ i = .int .i64 x ∧ OS wr w.heap.size v ((backL l).take (n - j)) ∧ Below w.heap.size w wr) (fun _ i _ => (intOf i + 1).toNat)
  case atStart => exact ⟨n, (n : Int) - 1, by omega, rfl, rfl, by rw [Nat.sub_self]; exact HOS.out, Below.refl _ _⟩
  case round =>
    obtain ⟨j, x, hj, hx, rfl, hos, hnx⟩ := hrel
    have HO : Hid (OS wr w.heap.size u3 ((backL l).take (n - j))) := hos
    clear hos
    by_cases hj0 : j = 0
    · have hx1 : x = -1 := by omega
      clear hx
      subst hx1
      obtain ⟨ad2, cap2, hv2⟩ := OS_len HO.out
      have HT : Hid ((backL l).take (n - j) = backL l) := List.take_of_length_le (by rw [backL_len, HN.out]; omega)
      rw [HT.out] at hv2
      subst hv2
      obtain ⟨bl, hbl⟩ : ∃ z, (backL l).length = z := ⟨_, rfl⟩
      have HBL : Hid ((backL l).length = bl) := hbl
      have HCH : Hid (chgsAt wr ad2 (backL l)) := by
        have h := OS_chgs HO.out
        rw [HT.out] at h
        exact h.1
      rw [hbl]
      clear hbl HO
      go_wp2
      go_ret
      exact ⟨⟨ad2, cap2, ret_slice HBL.out.symm, HCH.out⟩, hnx⟩
    · obtain ⟨i, rfl⟩ : ∃ i, j = i + 1 := ⟨j - 1, by omega⟩
      have hx1 : x = (i : Int) := by omega
      clear hx
      subst hx1
      have hil : i < l.length := by rw [HN.out]; omega
      obtain ⟨b, o, ra, rc, e, x1, x2, x3⟩ := HC.out i hil
      subst e
      have q1 := cell_later hnx x1
      have q2 := cell_later hnx x2
      have HRK : Hid (rowOk (l.getD i default).r) := chg_row hwl HFO.out i hil
      have hk4 := HFO.out.2 i hil
      have hk1 := hk4.1
      have hk2 := hk4.2.1
      have HT : Hid ((backL l).take (n - i) = (backL l).take (n - (i + 1)) ++ [⟨turnOf (l.getD i default).k, (l.getD i default).r⟩]) := by
        show (backL l).take (n - i) = _
        rw [show n - i = n - (i + 1) + 1 by omega, takeC _ _ (by rw [backL_len, HN.out]; omega), backL_at _ _ (by rw [HN.out]; omega), HN.out, show n - 1 - (n - (i + 1)) = i by omega]
      have HR0 : Hid (vl.rowAt w ra (l.getD i default).r) := x3
      obtain ⟨⟨kd, r⟩, hcv⟩ : ∃ c, l.getD i default = c := ⟨_, rfl⟩
      rw [hcv] at q1 q2 HRK HT hk1 hk2 HR0
      dsimp only at q1 q2 HRK HT hk1 hk2 HR0
      clear x1 x2 x3 hcv hk4
      obtain ⟨rl, hrl⟩ : ∃ x, r.length = x := ⟨_, rfl⟩
      have HRL : Hid (r.length = rl) := hrl
      rw [hrl] at q2
      have KC : Hid (∀ w1, Below w.heap.size w w1 → Calls Try.prog 36 #[.slice ra rl rc] w1 fun e w' => (∃ ad c, e = .returned (.slice ad rl c) ∧ ownV w' w1.heap.size (.slice ad rl c) r) ∧ Below w1.heap.size w1 w') := fun w1 hb => by
        rw [← hrl]; exact copy_any ra rc r w1 (rowAt_below HR0.out hb) (by have := HRK.out.1; omega)
      clear hrl
      obtain ⟨p, hpl, hpo, hpr⟩ := HO.out.r
      have HPL : Hid (p.length = ((backL l).take (n - (i + 1))).length) := hpl
      have HPR : Hid (rowsC wr w.heap.size (fun g => u3.ownBlock = some g) p ((backL l).take (n - (i + 1)))) := hpr
      have hp9 : p.length ≤ 1000000000 := by rw [hpl, List.length_take]; omega
      obtain ⟨pn, hpn⟩ : ∃ x, p.length = x := ⟨_, rfl⟩
      have HPN : Hid (p.length = pn) := hpn
      rw [hpn] at hpo hp9
      have HPO : Hid (wr.ownsRow w.heap.size 58 2 u3 pn (flatC p)) := hpo
      have hlow := HO.out.low
      clear hpl hpr hpo hpn
      have i1 : (0 : Int) ≤ (i : Int) := by omega
      have i2 : (i : Int) < (n : Int) := by omega
      have hwi : IntKind.i64.wrap ((i : Int) - 1) = (i : Int) - 1 := by rw [wrap_is]; omega
      by_cases t1 : kd = 1
      · subst t1
        rw [show turnOf 1 = 2 from rfl] at HT
        go_wp2_with (first
          | (go_at_call 36; refine (KC.out _ hnx).mono ?_; rintro e w1 ⟨⟨ad, cap, rfl, hov⟩, hb1⟩; have HO1 : Hid (w1.ownsRow w.heap.size 58 2 u3 pn (flatC p)) := own_below HPO.out hb1)
          | (at_builtin; refine wpList_appC rfl (.tmp 24) (.tmp 33) rfl w.heap.size u3 p 2 ad rl cap w1 pn HPN.out HO1.out hp9 (Nat.le_trans hlow hb1.size) rfl rfl ?_; intro g cap2 w3 hown2 hgrow2 hat2 hlt2))
        have HST := OS_step (r := r) (n := 2) (ad := ad) (cap := cap) (g := g) (cap2 := cap2) (w1 := w1) (w2 := w3) HO.out HPL.out (by rw [HPN.out]; exact HPO.out) HPR.out (drew_below hb1) (by rw [HRL.out]; exact hov) (by rw [HPN.out, HRL.out]; exact hown2) (by rw [HRL.out]; exact hgrow2) hat2
        rw [HPN.out] at HST
        go_roundw
        case rel => exact ⟨i, _, by omega, rfl, by go_num, by rw [HT.out]; exact HST.1, hnx.trans HST.2⟩
        case measure => simp [intOf] <;> omega
      · have t1' : (kd == 1) = false := by simpa using t1
        by_cases t3 : kd = 3
        · subst t3
          rw [show turnOf 3 = 4 from rfl] at HT
          go_wp2_with (first
            | (go_at_call 36; refine (KC.out _ hnx).mono ?_; rintro e w1 ⟨⟨ad, cap, rfl, hov⟩, hb1⟩; have HO1 : Hid (w1.ownsRow w.heap.size 58 2 u3 pn (flatC p)) := own_below HPO.out hb1)
            | (at_builtin; refine wpList_appC rfl (.tmp 24) (.tmp 33) rfl w.heap.size u3 p 4 ad rl cap w1 pn HPN.out HO1.out hp9 (Nat.le_trans hlow hb1.size) rfl rfl ?_; intro g cap2 w3 hown2 hgrow2 hat2 hlt2))
          have HST := OS_step (r := r) (n := 4) (ad := ad) (cap := cap) (g := g) (cap2 := cap2) (w1 := w1) (w2 := w3) HO.out HPL.out (by rw [HPN.out]; exact HPO.out) HPR.out (drew_below hb1) (by rw [HRL.out]; exact hov) (by rw [HPN.out, HRL.out]; exact hown2) (by rw [HRL.out]; exact hgrow2) hat2
          rw [HPN.out] at HST
          go_roundw
          case rel => exact ⟨i, _, by omega, rfl, by go_num, by rw [HT.out]; exact HST.1, hnx.trans HST.2⟩
          case measure => simp [intOf] <;> omega
        · have t3' : (kd == 3) = false := by simpa using t3
          by_cases t4 : kd = 4
          · subst t4
            rw [show turnOf 4 = 3 from rfl] at HT
            go_wp2_with (first
              | (go_at_call 36; refine (KC.out _ hnx).mono ?_; rintro e w1 ⟨⟨ad, cap, rfl, hov⟩, hb1⟩; have HO1 : Hid (w1.ownsRow w.heap.size 58 2 u3 pn (flatC p)) := own_below HPO.out hb1)
              | (at_builtin; refine wpList_appC rfl (.tmp 24) (.tmp 33) rfl w.heap.size u3 p 3 ad rl cap w1 pn HPN.out HO1.out hp9 (Nat.le_trans hlow hb1.size) rfl rfl ?_; intro g cap2 w3 hown2 hgrow2 hat2 hlt2))
            have HST := OS_step (r := r) (n := 3) (ad := ad) (cap := cap) (g := g) (cap2 := cap2) (w1 := w1) (w2 := w3) HO.out HPL.out (by rw [HPN.out]; exact HPO.out) HPR.out (drew_below hb1) (by rw [HRL.out]; exact hov) (by rw [HPN.out, HRL.out]; exact hown2) (by rw [HRL.out]; exact hgrow2) hat2
            rw [HPN.out] at HST
            go_roundw
            case rel => exact ⟨i, _, by omega, rfl, by go_num, by rw [HT.out]; exact HST.1, hnx.trans HST.2⟩
            case measure => simp [intOf] <;> omega
          · have t4' : (kd == 4) = false := by simpa using t4
            have t2 : kd = 2 := by omega
            subst t2
            rw [show turnOf 2 = 1 from rfl] at HT
            go_wp2_with (first
              | (go_at_call 36; refine (KC.out _ hnx).mono ?_; rintro e w1 ⟨⟨ad, cap, rfl, hov⟩, hb1⟩; have HO1 : Hid (w1.ownsRow w.heap.size 58 2 u3 pn (flatC p)) := own_below HPO.out hb1)
              | (at_builtin; refine wpList_appC rfl (.tmp 24) (.tmp 33) rfl w.heap.size u3 p 1 ad rl cap w1 pn HPN.out HO1.out hp9 (Nat.le_trans hlow hb1.size) rfl rfl ?_; intro g cap2 w3 hown2 hgrow2 hat2 hlt2))
            have HST := OS_step (r := r) (n := 1) (ad := ad) (cap := cap) (g := g) (cap2 := cap2) (w1 := w1) (w2 := w3) HO.out HPL.out (by rw [HPN.out]; exact HPO.out) HPR.out (drew_below hb1) (by rw [HRL.out]; exact hov) (by rw [HPN.out, HRL.out]; exact hown2) (by rw [HRL.out]; exact hgrow2) hat2
            rw [HPN.out] at HST
            go_roundw
            case rel => exact ⟨i, _, by omega, rfl, by go_num, by rw [HT.out]; exact HST.1, hnx.trans HST.2⟩
            case measure => simp [intOf] <;> omega
end Go.Proofs.Ytkjiaeolodemlaf.ch
