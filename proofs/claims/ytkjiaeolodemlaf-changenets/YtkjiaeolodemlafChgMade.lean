/- What changes' closure does to the two lists that it makes: so many Deletes more, so many Inserts more. -/
import Derived.Test.YtkjiaeolodemlafChgTwo
namespace Go.Proofs.Ytkjiaeolodemlaf.ch
open Go.ChangeShapes Go.WideShapes Go.ChangeAt Go.RowKit Go.Maps Go.WideMaps
open vl
set_option linter.unusedVariables false
set_option linter.unusedSimpArgs false

theorem rep_snoc (l : List Chg) (k : Nat) (x : Chg) : l ++ List.replicate (k + 1) x = (l ++ List.replicate k x) ++ [x] := by
  rw [List.replicate_succ', List.append_assoc]
theorem new_of {N g x : Nat} {v : Value} (h : newer N v) (hN : N ≤ x) (hat : v.ownBlock = some g ∨ g = x + 1) {n c : Nat} : newer N (.slice (some ⟨g, 0, none⟩) n c) := by
  intro b hb
  have hbg : b = g := by cases hb; rfl
  subst hbg
  rcases hat with h1 | h1
  · exact h b h1
  · omega

set_option maxRecDepth 100000 in
set_option maxHeartbeats 8000000 in
theorem made_any (C D base N : Nat) (key : ByteArray) (n : Int) (v u : Value) (l m : List Chg) (r : List Cel) (w : World) (h : TS w C D base v u l m) (hv : newer N v) (hu : newer N u) (hN : N ≤ w.heap.size)
    (hr : rowOk r) (hk : encR r = key.data.toList) (hkl : key.size ≤ maxLen) (n1 : -100000000 ≤ n) (n2 : n ≤ 100000000) (hl : l.length ≤ 100000000) (hm : m.length ≤ 100000000) :
    Calls Try.prog 42 #[.string key, .int .i64 n, .pointer (some ⟨C, 0, none⟩), .pointer (some ⟨D, 0, none⟩)] w fun e w' => e = .returned (.tuple #[]) ∧
      ∃ v' u', TS w' C D base v' u' (l ++ List.replicate (-n).toNat ⟨2, r⟩) (m ++ List.replicate n.toNat ⟨1, r⟩) ∧ newer N v' ∧ newer N u' ∧ fr2 C D N w w' := by
  have HT : Hid (TS w C D base v u l m) := h
  have HV : Hid (newer N v) := hv
  have HU : Hid (newer N u) := hu
  obtain ⟨rl, hrl⟩ : ∃ x, r.length = x := ⟨_, rfl⟩
  have HRL : Hid (r.length = rl) := hrl
  have KF : Hid (∀ w : World, Calls Try.prog 32 #[.string key] w fun e w' => (∃ ad cap, e = .returned (.slice ad rl cap) ∧ ownV w' w.heap.size (.slice ad rl cap) r) ∧ Below w.heap.size w w') := fun w => by
    rw [← hrl]; exact fresh_any r key w hr hk hkl
  clear h hv hu hrl hr hk
  obtain ⟨d, hd⟩ : ∃ x, (-n).toNat = x := ⟨_, rfl⟩
  obtain ⟨f, hf⟩ : ∃ x, n.toNat = x := ⟨_, rfl⟩
  rw [hd, hf]
  have hd1 : -n ≤ (d : Int) := by omega
  have hd2 : (d : Int) ≤ -n ∨ d = 0 := by omega
  have hf1 : n ≤ (f : Int) := by omega
  have hf2 : (f : Int) ≤ n ∨ f = 0 := by omega
  have hd9 : d ≤ 100000000 := by omega
  have hf9 : f ≤ 100000000 := by omega
  clear hd hf
  have hwn : IntKind.i64.wrap (-n) = -n := by rw [wrap_is]; omega
  go_enter Try.func42, Try.ntmps42
  go_wp2
  go_loopw [8] (fun i wr => ∃ (k : Nat) (v' : Value), k ≤ d ∧ i = .int .i64 k ∧ TS wr C D base v' u (l ++ List.replicate k ⟨2, r⟩) m ∧ newer N v' ∧ fr2 C D N w wr) (fun i _ => d - (intOf i).toNat)
  case atStart => exact ⟨0, v, by omega, rfl, by simpa using HT.out, HV.out, fr2_refl _ _ _ _⟩
  case round =>
    obtain ⟨k, v', hk, rfl, hts, hnv, hfr⟩ := hrel
    have HTS : Hid (TS wr C D base v' u (l ++ List.replicate k ⟨2, r⟩) m) := hts
    have HNV : Hid (newer N v') := hnv
    have HFR : Hid (fr2 C D N w wr) := hfr
    have hNw : N ≤ wr.heap.size := Nat.le_trans hN hfr.size
    clear hts hnv hfr
    by_cases hlt : k < d
    · have hltI : (k : Int) < -n := by omega
      obtain ⟨p, hpl, hpo, hpr⟩ := HTS.out.r1
      have HPL : Hid (p.length = (l ++ List.replicate k (⟨2, r⟩ : Chg)).length) := hpl
      have HPR : Hid (rowsC wr base (wrt C D v' u) p (l ++ List.replicate k ⟨2, r⟩)) := hpr
      have hp9 : p.length ≤ 1000000000 := by rw [hpl, List.length_append, List.length_replicate]; omega
      obtain ⟨pn, hpn⟩ : ∃ x, p.length = x := ⟨_, rfl⟩
      have HPN : Hid (p.length = pn) := hpn
      rw [hpn] at hpo hp9
      have HPO : Hid (wr.ownsRow base 58 2 v' pn (flatC p)) := hpo
      have hc := HTS.out.c1
      have hfz := HTS.out.f1
      have hvC := HTS.out.vC
      have hlow := HTS.out.low
      have hclt : C < wr.heap.size := World.block_lt_of_cell? _ _ hc
      clear hpl hpr hpo hpn
      go_wp2
      go_region_law (first
        | (refine step_appC (by rfl) (.tmp 10) (.tmp 14) (by rfl) base v' p 2 ad rl cap w1 pn HPN.out HO1.out hp9 (Nat.le_trans hlow hb1.size) (by rfl) (by rfl) ?_; intro g cap2 w2 hown2 hgrow2 hat2 hlt2; have hc2 : w2.cell? ⟨C, 0, none⟩ = some v' := far_cell hgrow2 hc1 hvC; have hf2 : w2.frozen? ⟨C, 0, none⟩ = false := far_frozen hgrow2 hc1 hvC ((hb1.frozen (p := ⟨C, 0, none⟩) hclt).trans hfz))
        | (go_simp; go_at_call 32; refine (KF.out wr.drew).mono ?_; rintro e w1 ⟨⟨ad, cap, rfl, hov⟩, hb1⟩; have hc1 : w1.cell? ⟨C, 0, none⟩ = some v' := cell_later hb1 hc; have hc1a : ∀ o, (w1.alloc o).cell? ⟨C, 0, none⟩ = some v' := fun o => cell_later ((Below.refl _ _).alloc (Nat.le_refl _) o) hc1; have HO1 : Hid (w1.ownsRow base 58 2 v' pn (flatC p)) := own_below HPO.out.drew hb1))
      all_goals
        have HST := TS_step (r := r) (n := 2) (ad := ad) (cap := cap) (g := g) (cap2 := cap2) (w1 := w1) (w2 := w2) HTS.out HPL.out (by rw [HPN.out]; exact HPO.out) HPR.out hb1 (by rw [HRL.out]; exact hov) (by rw [HPN.out, HRL.out]; exact hown2) (by rw [HRL.out]; exact hgrow2) hat2
        rw [HPN.out] at HST
        have hs1 : wr.heap.size ≤ w1.heap.size := hb1.size
        go_wp2
        go_roundw
        case rel => exact ⟨k + 1, _, by omega, by go_num, by rw [rep_snoc]; exact HST.1, new_of HNV.out (Nat.le_trans hNw hs1) hat2, fr2_trans HFR.out (fr2_of HST.2 HNV.out hNw)⟩
        case measure => simp [intOf]; omega
    · have hkd : k = d := by omega
      subst hkd
      have hltI : ¬ (k : Int) < -n := by omega
      obtain ⟨wa, hwa⟩ : ∃ x, x = wr := ⟨_, rfl⟩
      subst hwa
      go_wp2
      go_loopw [18] (fun i wr => ∃ (j : Nat) (u' : Value), j ≤ f ∧ i = .int .i64 j ∧ TS wr C D base v' u' (l ++ List.replicate k ⟨2, r⟩) (m ++ List.replicate j ⟨1, r⟩) ∧ newer N u' ∧ fr2 C D N w wr) (fun i _ => f - (intOf i).toNat)
      case atStart => exact ⟨0, u, by omega, rfl, by simpa using HTS.out, HU.out, HFR.out⟩
      case round =>
        obtain ⟨j, u', hj, rfl, hts2, hnu, hfr2⟩ := hrel
        have HT2 : Hid (TS wr C D base v' u' (l ++ List.replicate k ⟨2, r⟩) (m ++ List.replicate j ⟨1, r⟩)) := hts2
        have HNU : Hid (newer N u') := hnu
        have HF2 : Hid (fr2 C D N w wr) := hfr2
        have hNr : N ≤ wr.heap.size := Nat.le_trans hN hfr2.size
        clear hts2 hnu hfr2
        by_cases hlt2 : j < f
        · have hltJ : (j : Int) < n := by omega
          obtain ⟨p, hpl, hpo, hpr⟩ := HT2.out.symm.r1
          have HPL : Hid (p.length = (m ++ List.replicate j (⟨1, r⟩ : Chg)).length) := hpl
          have HPR : Hid (rowsC wr base (wrt D C u' v') p (m ++ List.replicate j ⟨1, r⟩)) := hpr
          have hp9 : p.length ≤ 1000000000 := by rw [hpl, List.length_append, List.length_replicate]; omega
          obtain ⟨pn, hpn⟩ : ∃ x, p.length = x := ⟨_, rfl⟩
          have HPN : Hid (p.length = pn) := hpn
          rw [hpn] at hpo hp9
          have HPO : Hid (wr.ownsRow base 58 2 u' pn (flatC p)) := hpo
          have hc := HT2.out.c2
          have hfz := HT2.out.f2
          have hvC := HT2.out.uD
          have hlow := HT2.out.low
          have hclt : D < wr.heap.size := World.block_lt_of_cell? _ _ hc
          clear hpl hpr hpo hpn
          go_wp2
          go_region_law (first
            | (refine step_appC (by rfl) (.tmp 20) (.tmp 24) (by rfl) base u' p 1 ad rl cap w1 pn HPN.out HO1.out hp9 (Nat.le_trans hlow hb1.size) (by rfl) (by rfl) ?_; intro g cap2 w2 hown2 hgrow2 hat2 hlt2; have hc2 : w2.cell? ⟨D, 0, none⟩ = some u' := far_cell hgrow2 hc1 hvC; have hf2 : w2.frozen? ⟨D, 0, none⟩ = false := far_frozen hgrow2 hc1 hvC ((hb1.frozen (p := ⟨D, 0, none⟩) hclt).trans hfz))
            | (go_simp; go_at_call 32; refine (KF.out wr.drew).mono ?_; rintro e w1 ⟨⟨ad, cap, rfl, hov⟩, hb1⟩; have hc1 : w1.cell? ⟨D, 0, none⟩ = some u' := cell_later hb1 hc; have hc1a : ∀ o, (w1.alloc o).cell? ⟨D, 0, none⟩ = some u' := fun o => cell_later ((Below.refl _ _).alloc (Nat.le_refl _) o) hc1; have HO1 : Hid (w1.ownsRow base 58 2 u' pn (flatC p)) := own_below HPO.out.drew hb1))
          all_goals
            have HST := TS_step (r := r) (n := 1) (ad := ad) (cap := cap) (g := g) (cap2 := cap2) (w1 := w1) (w2 := w2) HT2.out.symm HPL.out (by rw [HPN.out]; exact HPO.out) HPR.out hb1 (by rw [HRL.out]; exact hov) (by rw [HPN.out, HRL.out]; exact hown2) (by rw [HRL.out]; exact hgrow2) hat2
            rw [HPN.out] at HST
            have hs1 : wr.heap.size ≤ w1.heap.size := hb1.size
            go_wp2
            go_roundw
            case rel => exact ⟨j + 1, _, by omega, by go_num, by rw [rep_snoc]; exact HST.1.symm, new_of HNU.out (Nat.le_trans hNr hs1) hat2, fr2_trans HF2.out (fr2_symm (fr2_of HST.2 HNU.out hNr))⟩
            case measure => simp [intOf]; omega
        · have hjf : j = f := by omega
          subst hjf
          have hltJ : ¬ (j : Int) < n := by omega
          go_wp2
          go_end0
          exact ⟨rfl, v', u', HT2.out, HNV.out, HNU.out, HF2.out⟩
end Go.Proofs.Ytkjiaeolodemlaf.ch
