/- Undo: the changes backwards. -/
import Derived.Test.YtkjiaeolodemlafChgPlay
import Derived.Test.YtkjiaeolodemlafChgMade
namespace Go.Proofs.Ytkjiaeolodemlaf.ch
open Go.ChangeShapes Go.WideShapes Go.ChangeAt Go.RowKit Go.Maps Go.WideMaps Go.Sort
open vl
set_option linter.unusedVariables false
set_option linter.unusedSimpArgs false

theorem turned_any (k : Int) (w : World) : Calls Try.prog 31 #[.int .i64 k] w fun e w' => e = .returned (.int .i64 (turnOf k)) ∧ w' = w := by
  by_cases h1 : k = 1
  · subst h1
    go_enter Try.func31, Try.ntmps31
    go_wp2
    go_ret
    exact ⟨rfl, rfl⟩
  · have h1' : (k == 1) = false := by simpa using h1
    by_cases h2 : k = 2
    · subst h2
      go_enter Try.func31, Try.ntmps31
      go_wp2
      go_ret
      exact ⟨rfl, rfl⟩
    · have h2' : (k == 2) = false := by simpa using h2
      by_cases h3 : k = 3
      · subst h3
        go_enter Try.func31, Try.ntmps31
        go_wp2
        go_ret
        exact ⟨rfl, rfl⟩
      · have h3' : (k == 3) = false := by simpa using h3
        have e : turnOf k = 3 := by unfold turnOf; rw [if_neg h1, if_neg h2, if_neg h3]
        rw [e]
        go_enter Try.func31, Try.ntmps31
        go_wp2
        go_ret
        exact ⟨rfl, rfl⟩

/-- changes that are being made -/
structure OS (w : World) (base : Nat) (v : Value) (l : List Chg) : Prop where
  low : base ≤ w.heap.size
  r : CR w base v (fun g => v.ownBlock = some g) l
theorem OS_below {w w' : World} {base : Nat} {v : Value} {l : List Chg} (h : OS w base v l) (hb : Below w.heap.size w w') : OS w' base v l := by
  obtain ⟨p, h1, h2, h3⟩ := h.r
  exact ⟨Nat.le_trans h.low hb.size, p, h1, own_below h2 hb, rowsC_fr h3 (fun b hlt _ => hb.block b hlt) (fun _ _ k => k)⟩
theorem OS_step {w w1 w2 : World} {base : Nat} {v : Value} {l : List Chg} {p : List (Int × Value)} {r : List Cel} {n : Int} {ad : Option Addr} {cap g cap2 : Nat} (h : OS w base v l)
    (hpl : p.length = l.length) (hpo : w.ownsRow base 58 2 v p.length (flatC p)) (hpr : rowsC w base (fun g => v.ownBlock = some g) p l)
    (hb1 : Below w.drew.heap.size w.drew w1) (hov : ownV w1 w.heap.size (.slice ad r.length cap) r) (hown2 : w2.ownsRow base 58 2 (.slice (some ⟨g, 0, none⟩) (p.length + 1) cap2) (p.length + 1) (flatC (p ++ [(n, .slice ad r.length cap)])))
    (hg2 : (w1.alloc (.cells #[.int .i64 n, .slice ad r.length cap] 58)).grownBy w2 v.ownBlock) (hat : v.ownBlock = some g ∨ g = w1.heap.size + 1) :
    OS w2 base (.slice (some ⟨g, 0, none⟩) (p.length + 1) cap2) (l ++ [⟨n, r⟩]) ∧ Below base w w2 := by
  have hs1 : w.heap.size ≤ w1.heap.size := hb1.size
  have hs2 : w1.heap.size + 1 ≤ w2.heap.size := by have := hg2.size; simpa using this
  have hvlt : ∀ b, v.ownBlock = some b → base ≤ b ∧ b < w.heap.size := fun b hb => own_lt hpo hb
  have hblk : ∀ b, b < w1.heap.size → v.ownBlock ≠ some b → w2.heap[b]? = w1.heap[b]? := fun b hb ho => by
    rw [hg2.block b (by simp; omega) (fun e => ho e.symm)]
    exact Below.heap_alloc _ _ b hb
  have hbw : Below base w w2 := by
    have hlow := h.low
    have hlow1 : base ≤ w.drew.heap.size := h.low
    have hb0 : Below base w.drew w2 := ((hb1.mono hlow1).alloc (Nat.le_trans hlow hs1) (.cells #[.int .i64 n, .slice ad r.length cap] 58)).grown hg2 (by simp; omega) (fun b hb => (hvlt b hb).1)
    exact ((Below.refl base w).drew).trans hb0
  have hno : ∀ b, b < w.heap.size → ¬ v.ownBlock = some b → w2.heap[b]? = w.heap[b]? := fun b hb hn => (hblk b (by omega) hn).trans (hb1.block b hb)
  have hnw : ∀ b, b < w.heap.size → (Value.slice (some ⟨g, 0, none⟩) (p.length + 1) cap2).ownBlock = some b → v.ownBlock = some b := by
    intro b hb e
    have hbg : g = b := by cases e; rfl
    subst hbg
    rcases hat with h1 | h1
    · exact h1
    · omega
  refine ⟨⟨Nat.le_trans h.low hbw.size, p ++ [(n, .slice ad r.length cap)], by rw [List.length_append, List.length_append, hpl]; rfl, by rw [List.length_append]; exact hown2, ?_⟩, hbw⟩
  intro i hi
  rw [List.length_append] at hi
  by_cases hlt : i < l.length
  · have := rowsC_fr hpr hno hnw i hlt
    rw [getD_snoc_lt l _ _ i hlt, getD_snoc_lt p _ _ i (by omega)]
    exact this
  · have hie : i = l.length := by simp at hi; omega
    rw [getD_snoc_at l _ _ i hie, getD_snoc_at p _ _ i (by omega)]
    refine ⟨rfl, ad, cap, rfl, ?_, ?_⟩
    · refine own_same (World.ownsRow.mono hov h.low) (fun b hb => ?_)
      have hbb := own_lt hov hb
      exact hblk b hbb.2 (fun e => by have := (hvlt b e).2; omega)
    · intro b hb e
      have hbb := own_lt hov hb
      have hbg : g = b := by cases e; rfl
      subst hbg
      rcases hat with h1 | h1
      · have := (hvlt g h1).2; omega
      · omega
theorem OS_chgs {w : World} {base : Nat} {ad : Option Addr} {n cap : Nat} {l : List Chg} (h : OS w base (.slice ad n cap) l) : chgsAt w ad l ∧ n = l.length := CR_chgs h.r

def undoRes (l : List Chg) (e : Ending) (w' : World) : Prop :=
  (formErr l ≠ 0 ∧ e = .returned (.tuple #[.slice none 0 0, .int .i64 (formErr l)])) ∨
  (formErr l = 0 ∧ ∃ ad cap, e = .returned (.tuple #[.slice ad (backL l).length cap, .int .i64 0]) ∧ chgsAt w' ad (backL l))

set_option maxRecDepth 100000 in
set_option maxHeartbeats 8000000 in
theorem undo_any (c : Option Addr) (cc : Nat) (l : List Chg) (w : World) (hc : chgsAt w c l) (hwl : wfChgs l) (hll : l.length ≤ 9223372036854775807) :
    Calls Try.prog 13 #[.slice c l.length cc] w fun e w' => undoRes l e w' ∧ Below w.heap.size w w' := by
  have KK := keysOf_any c cc l w hc hwl hll
  have HC : Hid (chgsAt w c l) := hc
  clear hc
  obtain ⟨n, hn⟩ : ∃ n, l.length = n := ⟨_, rfl⟩
  have HN : Hid (l.length = n) := hn
  rw [hn] at KK
  rw [hn]
  clear hn
  go_enter Try.func13, Try.ntmps13
  go_wp2_with fail
  refine KK.mono ?_
  rintro e w2 ⟨hres, hb2⟩
  rcases hres with ⟨hfe, hfo, ad, kc, rfl, hks⟩ | ⟨hfe, rfl⟩
  · have HFE : Hid (formErr l = 0) := hfe
    have HFO : Hid (formOk l) := hfo
    have hn4 : n ≤ 4096 := by rw [← HN.out]; exact HFO.out.1
    have hbz := hb2.size
    obtain ⟨i0, hi, hz0, hz1, hz2⟩ := info_parts infoG
    obtain ⟨wm, hmk, hown, hgr⟩ := run_make_own (P := Try.prog) w2 w2.heap.size 23 58 i0 (.agg #[.int .i64 0, .slice none 0 0]) 2 Try.underlying23 hi hz0 hz1 .i64 .i64 n (by rw [hz2]; omega) (by unfold maxLen; omega) (Nat.le_refl _)
    have hbm : Below w2.heap.size w2 wm := (Below.refl _ _).grown hgr (Nat.le_refl _) (fun k hk => by cases hk)
    have HKS : Hid (keysAt w2 ad l) := hks
    have HOS : Hid (OS wm w2.heap.size (.slice (some ⟨w2.heap.size, 0, none⟩) 0 n) []) := ⟨hbm.size, [], rfl, hown, fun i hi => absurd hi (Nat.not_lt_zero i)⟩
    have hwn : IntKind.i64.wrap ((n : Int) - 1) = (n : Int) - 1 := by rw [wrap_is]; omega
    rw [HN.out]
    clear hfe hfo hks KK hi hz0 hz1 hz2 hown hgr
    go_wp2
    go_loopw [6, 7] (fun v i wr => ∃ (j : Nat) (x : Int), j ≤ n ∧ x = (j : Int) - 1 ∧ i = .int .i64 x ∧ OS wr w2.heap.size v ((backL l).take (n - j)) ∧ Below w2.heap.size w2 wr) (fun _ i _ => (intOf i + 1).toNat)
    case atStart => exact ⟨n, (n : Int) - 1, by omega, rfl, rfl, by rw [Nat.sub_self]; exact HOS.out, hbm⟩
    case round =>
      obtain ⟨j, x, hj, hx, rfl, hos, hmx⟩ := hrel
      have hnx : Below w.heap.size w wr := hb2.trans (hmx.mono hbz)
      have HO : Hid (OS wr w2.heap.size u6 ((backL l).take (n - j))) := hos
      clear hos
      by_cases hj0 : j = 0
      · have hx1 : x = -1 := by omega
        clear hx
        subst hx1
        obtain ⟨ad2, cap2, hv2, _⟩ : ∃ ad cap, u6 = .slice ad n cap ∧ True := by
          obtain ⟨p, h1, h2, _⟩ := HO.out.r
          obtain ⟨ad, cap, hv, _⟩ := row_form h2
          refine ⟨ad, cap, ?_, trivial⟩
          rw [hv, h1, List.length_take, backL_len, HN.out, hj0]
          simp
        subst hv2
        have HT : Hid ((backL l).take (n - j) = backL l) := List.take_of_length_le (by rw [backL_len, HN.out]; omega)
        go_wp2
        go_ret2
        have hch := OS_chgs HO.out
        rw [HT.out] at hch
        exact ⟨.inr ⟨HFE.out, ad2, cap2, ret_sl hch.2, hch.1⟩, hnx⟩
      · obtain ⟨i, rfl⟩ : ∃ i, j = i + 1 := ⟨j - 1, by omega⟩
        have hx1 : x = (i : Int) := by omega
        clear hx
        subst hx1
        have hil : i < l.length := by rw [HN.out]; omega
        obtain ⟨b, o, ra, rc, e, x1, _, _⟩ := HC.out i hil
        subst e
        obtain ⟨g, e, x2⟩ := HKS.out i hil
        subst e
        have q1 := cell_later hnx x1
        have q2 := cell_later hmx x2
        have HRK : Hid (rowOk (l.getD i default).r) := chg_row hwl HFO.out i hil
        have HT : Hid ((backL l).take (n - i) = (backL l).take (n - (i + 1)) ++ [⟨turnOf (l.getD i default).k, (l.getD i default).r⟩]) := by
          show (backL l).take (n - i) = _
          rw [show n - i = n - (i + 1) + 1 by omega, takeC _ _ (by rw [backL_len, HN.out]; omega), backL_at _ _ (by rw [HN.out]; omega), HN.out, show n - 1 - (n - (i + 1)) = i by omega]
        obtain ⟨⟨kd, r⟩, hcv⟩ : ∃ c, l.getD i default = c := ⟨_, rfl⟩
        rw [hcv] at q1 q2 HRK HT
        dsimp only at q1 q2 HRK HT
        clear x1 x2 hcv
        obtain ⟨key, hkey⟩ : ∃ x, (⟨(encR r).toArray⟩ : ByteArray) = x := ⟨_, rfl⟩
        have HKE : Hid (encR r = key.data.toList) := by show encR r = key.data.toList; rw [← hkey]
        have HKL : Hid (key.size ≤ maxLen) := by
          show key.size ≤ maxLen
          rw [← list_len, ← HKE.out]; exact enc_len HRK.out
        rw [hkey] at q2
        clear hkey
        obtain ⟨rl, hrl⟩ : ∃ x, r.length = x := ⟨_, rfl⟩
        have HRL : Hid (r.length = rl) := hrl
        have KF : Hid (∀ w : World, Calls Try.prog 32 #[.string key] w fun e w' => (∃ ad cap, e = .returned (.slice ad rl cap) ∧ ownV w' w.heap.size (.slice ad rl cap) r) ∧ Below w.heap.size w w') := fun w => by
          rw [← hrl]; exact fresh_any r key w HRK.out HKE.out HKL.out
        clear hrl
        obtain ⟨tu, htu⟩ : ∃ x, turnOf kd = x := ⟨_, rfl⟩
        have KT : Hid (∀ w : World, Calls Try.prog 31 #[.int .i64 kd] w fun e w' => e = .returned (.int .i64 tu) ∧ w' = w) := by rw [← htu]; exact turned_any kd
        rw [htu] at HT
        clear htu
        obtain ⟨p, hpl, hpo, hpr⟩ := HO.out.r
        have HPL : Hid (p.length = ((backL l).take (n - (i + 1))).length) := hpl
        have HPR : Hid (rowsC wr w2.heap.size (fun g => u6.ownBlock = some g) p ((backL l).take (n - (i + 1)))) := hpr
        have hp9 : p.length ≤ 1000000000 := by rw [hpl, List.length_take]; omega
        obtain ⟨pn, hpn⟩ : ∃ x, p.length = x := ⟨_, rfl⟩
        have HPN : Hid (p.length = pn) := hpn
        rw [hpn] at hpo hp9
        have HPO : Hid (wr.ownsRow w2.heap.size 58 2 u6 pn (flatC p)) := hpo
        have hlow := HO.out.low
        clear hpl hpr hpo hpn
        have i1 : (0 : Int) ≤ (i : Int) := by omega
        have i2 : (i : Int) < (n : Int) := by omega
        have hwi : IntKind.i64.wrap ((i : Int) - 1) = (i : Int) - 1 := by rw [wrap_is]; omega
        go_wp2
        go_region_law (first
          | (refine step_appC (by rfl) (.tmp 26) (.tmp 39) (by rfl) w2.heap.size u6 p tu ad rl cap w1 pn HPN.out HO1.out hp9 (Nat.le_trans hlow hb1.size) (by rfl) (by rfl) ?_; intro g cap2 w3 hown2 hgrow2 hat2 hlt2)
          | (go_simp; go_at_call 31; refine (KT.out _).mono ?_; rintro e wt ⟨rfl, rfl⟩)
          | (go_simp; go_at_call 32; refine (KF.out wr.drew).mono ?_; rintro e w1 ⟨⟨ad, cap, rfl, hov⟩, hb1⟩; have q1a := cell_later (w := wr.drew) hb1 q1; have HO1 : Hid (w1.ownsRow w2.heap.size 58 2 u6 pn (flatC p)) := own_below HPO.out.drew hb1))
        all_goals
          have HST := OS_step (r := r) (n := tu) (ad := ad) (cap := cap) (g := g) (cap2 := cap2) (w1 := w1) (w2 := w3) HO.out HPL.out (by rw [HPN.out]; exact HPO.out) HPR.out hb1 (by rw [HRL.out]; exact hov) (by rw [HPN.out, HRL.out]; exact hown2) (by rw [HRL.out]; exact hgrow2) hat2
          rw [HPN.out] at HST
          go_wp2
          go_roundw
          case rel => exact ⟨i, _, by omega, rfl, by go_num, by rw [HT.out]; exact HST.1, hmx.trans HST.2⟩
          case measure => simp [intOf] <;> omega
  · have hfe' : (formErr l == 0) = false := by simpa using hfe
    have HFE : Hid (formErr l ≠ 0) := hfe
    clear hfe
    obtain ⟨x, hx⟩ : ∃ x, formErr l = x := ⟨_, rfl⟩
    have HX : Hid (formErr l = x) := hx
    rw [hx] at hfe' ⊢
    clear hx
    go_wp2
    go_ret2
    exact ⟨.inl ⟨HFE.out, ret_str HX.out.symm⟩, hb2⟩
end Go.Proofs.Ytkjiaeolodemlaf.ch
