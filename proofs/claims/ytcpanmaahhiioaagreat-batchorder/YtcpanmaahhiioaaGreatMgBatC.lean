/- Several texts in one: BatVersion, BatPartners, BatPartners2, BatPartners3, BatGroups, BatLie. -/
import Derived.Test.YtcpanmaahhiioaaGreatMgBatA
import Derived.BigQuiet
import Derived.Test.YtcpanmaahhiioaaGreatMgPlnG
import Derived.Deep.RegionHeld3
import Derived.Maps.OwnRows
import Derived.Maps.Views
import Derived.Test.YtcpanmaahhiioaaGreatMgChgB
import Derived.Maps.GroupsBeside
/- E2: a left row's version: versionOf. -/
namespace Go.Proofs.YtcpanmaahhiioaaGreat.bt
open Go.ChangeShapes Go.WideShapes Go.ChangeAt Go.RowKit
open vl pl
set_option linter.unusedVariables false
set_option linter.unusedSimpArgs false
/-- a slice of places -/
def natsAt (w : World) (a : Option Addr) (ks : List Nat) : Prop :=
  ∀ i, i < ks.length → ∃ b off, a = some ⟨b, off, none⟩ ∧ w.cell? ⟨b, off + i, none⟩ = some (.int .i64 ((ks.getD i 0 : Nat) : Int))
theorem natsAt_below {w w' : World} {a : Option Addr} {ks : List Nat} (h : natsAt w a ks) (hb : Below w.heap.size w w') : natsAt w' a ks := by
  intro i hi
  obtain ⟨b, o, e, x⟩ := h i hi
  exact ⟨b, o, e, cell_later hb x⟩
/-- the version so far, in memory -/
def bestAt (base : Nat) (w : World) (v : Value) : Option Nat → Prop
  | none => v = .slice none 0 0
  | some b => ∃ g, base ≤ g ∧ v = .slice (some ⟨g, 0, none⟩) 1 1 ∧ w.cell? ⟨g, 0, none⟩ = some (.int .i64 (b : Nat))
theorem bestAt_below {base : Nat} {w w' : World} {v : Value} {o : Option Nat} (h : bestAt base w v o) (hb : Below w.heap.size w w') : bestAt base w' v o := by
  cases o with
  | none => exact h
  | some b =>
    obtain ⟨g, h1, h2, h3⟩ := h
    exact ⟨g, h1, h2, cell_later hb h3⟩
theorem version_take {l : Int} {R : List Stm} {ks : List Nat} {k : Nat} (h : k < ks.length) : versionOf l R (ks.take (k + 1)) = vstep l R (versionOf l R (ks.take k)) (ks.getD k 0) := by
  unfold versionOf
  rw [List.take_succ_eq_append_getElem h, List.foldl_append]
  simp [List.getD_eq_getElem?_getD, h]
theorem version_lt {l : Int} {R : List Stm} {ks : List Nat} {k b : Nat} (hk : ∀ k ∈ ks, k < R.length) (h : versionOf l R (ks.take k) = some b) : b < R.length :=
  hk b (List.mem_of_mem_take (version_mem h))
set_option maxRecDepth 10000 in
set_option maxHeartbeats 4000000 in
theorem versionOf_any (lt : Int) (ra : Option Addr) (rl rc : Nat) (a2 a3 : Option Addr) (c2 c3 : Nat) (R : List Stm) (ks : List Nat) (w : World) (hR : stmsAt w a2 R) (hk : ∀ k ∈ ks, k < R.length) (hks : natsAt w a3 ks) (hl : ks.length ≤ 9223372036854775807) :
    Calls Tryz.prog 112 #[.agg #[.int .i64 lt, .slice ra rl rc], .slice a2 R.length c2, .slice a3 ks.length c3] w fun e w' => (∃ v, e = .returned v ∧ bestAt w.heap.size w' v (versionOf lt R ks)) ∧ Below w.heap.size w w' := by
  have HV : Hid (versionOf lt R (ks.take ks.length) = versionOf lt R ks) := by show versionOf _ _ _ = _; rw [List.take_length]
  have HS : Hid (∀ k, k < ks.length → versionOf lt R (ks.take (k + 1)) = vstep lt R (versionOf lt R (ks.take k)) (ks.getD k 0)) := fun k h => version_take h
  have HL : Hid (∀ k b, versionOf lt R (ks.take k) = some b → b < R.length) := fun k b h => version_lt hk h
  have HK : Hid (∀ k, k < ks.length → ks.getD k 0 < R.length) := fun k h => hk _ (getD_mem h)
  have HR : Hid (stmsAt w a2 R) := hR
  have HN : Hid (natsAt w a3 ks) := hks
  obtain ⟨V, hV⟩ : ∃ V : Nat → Option Nat, (fun k => versionOf lt R (ks.take k)) = V := ⟨_, rfl⟩
  have hV' : ∀ k, versionOf lt R (ks.take k) = V k := fun k => by rw [← hV]
  have h00 : V 0 = none := by rw [← hV]; rfl
  have H0 : Hid (V 0 = none) := h00
  simp only [hV'] at HV HS HL
  obtain ⟨vv, hvv⟩ : ∃ z, versionOf lt R ks = z := ⟨_, rfl⟩
  rw [hvv] at HV ⊢
  clear hV hV' h00 hvv hR hk hks
  obtain ⟨n, hn⟩ : ∃ n, ks.length = n := ⟨_, rfl⟩
  have HNL : Hid (ks.length = n) := hn
  rw [hn] at HV HS HK hl ⊢
  clear hn
  obtain ⟨m, hm⟩ : ∃ n, R.length = n := ⟨_, rfl⟩
  have HML : Hid (R.length = m) := hm
  rw [hm] at HL HK ⊢
  clear hm
  go_enter Tryz.func112, Tryz.ntmps112
  go_wp2
  generalize hW0 : (World.alloc w _) = W0
  have hb0 : Below w.heap.size w W0 := by rw [← hW0]; exact (Below.refl _ _).alloc (Nat.le_refl _) _
  have s0 : W0.cell? ⟨w.heap.size, 0, none⟩ = some (.int .i64 lt) := by subst hW0; go_simp
  clear hW0
  go_loopw [7, 9, 12] (fun bv _ i wr => ∃ k : Nat, k ≤ n ∧ i = .int .i64 k ∧ Below W0.heap.size W0 wr ∧ bestAt w.heap.size wr bv (V k)) (fun _ _ i _ => n - (intOf i).toNat)
  case atStart => exact ⟨0, Nat.zero_le _, rfl, Below.refl _ _, by rw [H0.out]; rfl⟩
  case round =>
    obtain ⟨k, hkn, rfl, hnx, hbest⟩ := hrel
    have hbr := hb0.trans (hnx.mono hb0.size)
    have hsz := hbr.size
    have c0 := cell_later hnx s0
    by_cases hlt : k < n
    · obtain ⟨b3, o3, e3, y1⟩ := HN.out k (by rw [HNL.out]; exact hlt)
      subst e3
      obtain ⟨p, hp⟩ : ∃ z, ks.getD k 0 = z := ⟨_, rfl⟩
      have hpm : p < m := by rw [← hp]; exact HK.out k hlt
      obtain ⟨b2, o2, ra2, rc2, e2, x1, x2, x3⟩ := HR.out p (by rw [HML.out]; exact hpm)
      subst e2
      have HST : Hid (V (k + 1) = vstep lt R (V k) p) := by rw [← hp]; exact HS.out k hlt
      rw [hp] at y1
      have y2 := cell_later hbr y1
      have q1 := cell_later hbr x1
      have HT : Hid (∀ b, V k = some b → ∃ z, (R.getD b default).t = z ∧ b < m ∧ wr.cell? ⟨b2, o2 + b * 2, none⟩ = some (.int .i64 z)) := fun b hb => by
        have hbm := HL.out k b hb
        obtain ⟨b2', o2', ra2', rc2', e2', x1', _, _⟩ := HR.out b (by rw [HML.out]; exact hbm)
        cases e2'
        exact ⟨_, rfl, hbm, cell_later hbr x1'⟩
      obtain ⟨t, ht⟩ : ∃ z, (R.getD p default).t = z := ⟨_, rfl⟩
      have HTT : Hid ((R.getD p default).t = t) := ht
      rw [ht] at q1
      clear x1 x2 x3 y1 ht hp
      have i1 : (0 : Int) ≤ (k : Int) := by omega
      have i2 : (k : Int) < (n : Int) := by omega
      have j1 : (0 : Int) ≤ (p : Int) := by omega
      have j2 : (p : Int) < (m : Int) := by omega
      by_cases hgt : lt < t
      · have hd : decide (lt < t) = true := decide_eq_true hgt
        have HE : Hid (V (k + 1) = V k) := by rw [HST.out]; show vstep _ _ _ _ = _; unfold vstep; rw [HTT.out, if_pos hgt]
        go_wp2
        go_quiet (fail)
        have hld := below_drewN hnx nq
        have hbe := bestAt_below hbest (below_drewN (Below.refl _ wr) nq)
        go_wp2
        go_roundw
        case rel => exact ⟨k + 1, by omega, by go_num, hld, by rw [HE.out]; exact hbe⟩
        case measure => simp [intOf]; omega
      · have hd : decide (lt < t) = false := decide_eq_false hgt
        have HE : Hid (V (k + 1) = match V k with | none => some p | some b => if (R.getD b default).t ≤ t then some p else some b) := by rw [HST.out]; show vstep _ _ _ _ = _; unfold vstep; rw [HTT.out, if_neg hgt]; cases V k <;> rfl
        cases hVk : V k with
        | none =>
          rw [hVk] at hbest HE
          have hu : u7 = .slice none 0 0 := hbest
          subst hu
          have HE' : Hid (V (k + 1) = some p) := HE.out
          clear hbest HE HT hVk
          go_wp2
          go_quiet (fail)
          have hq := below_drewN (Below.refl wr.heap.size wr) nq
          generalize (wr.drewN nq) = W1 at hq ⊢
          have c1 := cell_later hq c0
          have q2 := cell_later hq q1
          go_wp2
          go_quiet (fail)
          have hq2 := below_drewN hq nq
          generalize (W1.drewN nq) = W2 at hq2 ⊢
          have hlx := hnx.trans (hq2.mono hnx.size)
          have hsx := hlx.size
          have hly := Nat.le_trans hbr.size hq2.size
          go_wp2
          go_roundw
          case rel => exact ⟨k + 1, by omega, by go_num, hlx.alloc hsx _, by rw [HE'.out]; exact ⟨_, hly, rfl, by go_simp⟩⟩
          case measure => simp [intOf]; omega
        | some b =>
          rw [hVk] at hbest HE
          obtain ⟨g, g1, hu, g3⟩ := hbest
          subst hu
          obtain ⟨tb, htb, hbm, q3⟩ := HT.out b hVk
          have HE' : Hid (V (k + 1) = if tb ≤ t then some p else some b) := by rw [← htb]; exact HE.out
          have l1 : (0 : Int) ≤ (b : Int) := by omega
          have l2 : (b : Int) < (m : Int) := by omega
          clear HE HT hVk htb
          by_cases hge : tb ≤ t
          · have hd2 : decide (tb ≤ t) = true := decide_eq_true hge
            have HF : Hid (V (k + 1) = some p) := by rw [HE'.out, if_pos hge]; rfl
            go_wp2
            go_quiet (fail)
            have hq := below_drewN (Below.refl wr.heap.size wr) nq
            generalize (wr.drewN nq) = W1 at hq ⊢
            have c1 := cell_later hq c0
            have q2 := cell_later hq q1
            have q4 := cell_later hq q3
            have g4 := cell_later hq g3
            go_wp2
            go_quiet (fail)
            have hq2 := below_drewN hq nq
            generalize (W1.drewN nq) = W2 at hq2 ⊢
            have hlx := hnx.trans (hq2.mono hnx.size)
            have hsx := hlx.size
            have hly := Nat.le_trans hbr.size hq2.size
            go_wp2
            go_roundw
            case rel => exact ⟨k + 1, by omega, by go_num, hlx.alloc hsx _, by rw [HF.out]; exact ⟨_, hly, rfl, by go_simp⟩⟩
            case measure => simp [intOf]; omega
          · have hd2 : decide (tb ≤ t) = false := decide_eq_false hge
            have HF : Hid (V (k + 1) = some b) := by rw [HE'.out, if_neg hge]; rfl
            go_wp2
            go_quiet (fail)
            have hq := below_drewN (Below.refl wr.heap.size wr) nq
            generalize (wr.drewN nq) = W1 at hq ⊢
            have c1 := cell_later hq c0
            have q2 := cell_later hq q1
            have q4 := cell_later hq q3
            have g4 := cell_later hq g3
            go_wp2
            go_quiet (fail)
            have hq2 := below_drewN hq nq
            generalize (W1.drewN nq) = W2 at hq2 ⊢
            have hlx := hnx.trans (hq2.mono hnx.size)
            have g5 := cell_later hq2 g3
            go_wp2
            go_roundw
            case rel => exact ⟨k + 1, by omega, by go_num, hlx, by rw [HF.out]; exact ⟨_, g1, rfl, g5⟩⟩
            case measure => simp [intOf]; omega
    · have hkk : k = n := by omega
      subst hkk
      have hbe : bestAt w.heap.size wr u7 vv := by rw [← HV.out]; exact hbest
      clear hbest
      go_wp2
      go_ret
      exact ⟨⟨_, rfl, hbe⟩, hbr⟩
end Go.Proofs.YtcpanmaahhiioaaGreat.bt

/- Where the right rows stand that a left row is joined with: partnersOf, of Temporal. -/
namespace Go.Proofs.YtcpanmaahhiioaaGreat.bt
open Go.ChangeShapes Go.WideShapes Go.ChangeAt Go.RowKit
open vl pl
set_option linter.unusedVariables false
set_option linter.unusedSimpArgs false
/-- these places, in a slice -/
def placesAt (base : Nat) (w : World) (v : Value) (ks : List Nat) : Prop := ∃ ad cap, v = .slice ad ks.length cap ∧ natsAt w ad ks ∧ ∀ b o s, ad = some ⟨b, o, s⟩ → base ≤ b
theorem placesAt_mono {base base' : Nat} {w : World} {v : Value} {ks : List Nat} (h : placesAt base w v ks) (hb : base' ≤ base) : placesAt base' w v ks := by
  obtain ⟨ad, cap, h1, h2, h3⟩ := h
  exact ⟨ad, cap, h1, h2, fun b o s e => Nat.le_trans hb (h3 b o s e)⟩
theorem best_places {base : Nat} {w : World} {v : Value} {o : Option Nat} (h : bestAt base w v o) : placesAt base w v o.toList := by
  cases o with
  | none => exact ⟨none, 0, h, fun i hi => absurd hi (Nat.not_lt_zero i), fun b o s e => by cases e⟩
  | some b =>
    obtain ⟨g, h1, h2, h3⟩ := h
    refine ⟨_, _, h2, fun i hi => ?_, fun b o s e => by cases e; exact h1⟩
    have hi0 : i = 0 := by have : i < 1 := hi; omega
    subst hi0
    exact ⟨g, 0, rfl, h3⟩
set_option maxRecDepth 10000 in
set_option maxHeartbeats 1000000 in
theorem partners3_any (p : Pln) (x : PA) (lt : Int) (ra : Option Addr) (rl rc0 : Nat) (a2 a3 : Option Addr) (c2 c3 : Nat) (R : List Stm) (ks : List Nat) (w : World) (h3 : p.kind = 3) (hR : stmsAt w a2 R) (hk : ∀ k ∈ ks, k < R.length) (hks : natsAt w a3 ks) (hl : ks.length ≤ 9223372036854775807) :
    Calls Tryz.prog 76 #[planV p x, .agg #[.int .i64 lt, .slice ra rl rc0], .slice a2 R.length c2, .slice a3 ks.length c3] w fun e w' => (∃ v, e = .returned v ∧ placesAt w.heap.size w' v (versionOf lt R ks).toList) ∧ Below w.heap.size w w' := by
  have K : Hid (∀ w1, Below w.heap.size w w1 → Calls Tryz.prog 112 #[.agg #[.int .i64 lt, .slice ra rl rc0], .slice a2 R.length c2, .slice a3 ks.length c3] w1 fun e w' => (∃ v, e = .returned v ∧ placesAt w1.heap.size w' v (versionOf lt R ks).toList) ∧ Below w1.heap.size w1 w') := fun w1 hb =>
    (versionOf_any lt ra rl rc0 a2 a3 c2 c3 R ks w1 (stmsAt_below hR hb) hk (natsAt_below hks hb) hl).mono fun e w' h => by
      obtain ⟨⟨v, h1, h2⟩, h3⟩ := h
      exact ⟨⟨v, h1, best_places h2⟩, h3⟩
  obtain ⟨ps, hps⟩ : ∃ z, (versionOf lt R ks).toList = z := ⟨_, rfl⟩
  rw [hps] at K ⊢
  obtain ⟨n2, hn2⟩ : ∃ n, R.length = n := ⟨_, rfl⟩
  obtain ⟨n3, hn3⟩ : ∃ n, ks.length = n := ⟨_, rfl⟩
  rw [hn2, hn3] at K
  rw [hn2, hn3]
  clear hps hn2 hn3 hR hk hks hl
  obtain ⟨kind, mode, low, high, size, limit, left, right, lkeys, rkeys, grouped, group, aggs⟩ := p
  obtain ⟨la, lc, rr, rc, lk, lkc, rk, rkc, g, gc, ag, ac⟩ := x
  unfold planV
  dsimp only at h3 ⊢
  subst h3
  go_enter Tryz.func76, Tryz.ntmps76
  go_wp2_with fail
  refine (K.out _ (((Below.refl _ _).alloc (Nat.le_refl _) _).alloc (by simp) _)).mono ?_
  rintro e w1 ⟨⟨v, rfl, hv⟩, hb1⟩
  have hbn := (((Below.refl w.heap.size w).alloc (Nat.le_refl _) _).alloc (by simp) _).trans (hb1.mono (by simp; omega))
  obtain ⟨ad, cap, rfl, hat⟩ := placesAt_mono (base' := w.heap.size) hv (by simp; omega)
  go_wp2
  go_ret
  exact ⟨⟨_, rfl, ⟨ad, cap, rfl, hat⟩⟩, hbn⟩
end Go.Proofs.YtcpanmaahhiioaaGreat.bt

/- Where the right rows stand that a left row is joined with: partnersOf, of Interval and Window. -/
namespace Go.Proofs.YtcpanmaahhiioaaGreat.bt
open Go.ChangeShapes Go.WideShapes Go.ChangeAt Go.RowKit
open vl pl
set_option linter.unusedVariables false
set_option linter.unusedSimpArgs false
/-- places as ints -/
def asI (ks : List Nat) : List Int := ks.map (fun k : Nat => (k : Int))
theorem asI_places {w : World} {base : Nat} {ad : Option Addr} {n cap : Nat} {ks : List Nat} (h : ownI w base (.slice ad n cap) (asI ks)) : placesAt base w (.slice ad n cap) ks := by
  obtain ⟨h1, h2⟩ := ownI_at h
  have hn : n = ks.length := by rw [h2]; simp [asI]
  subst hn
  refine ⟨ad, cap, rfl, fun i hi => ?_, fun b o s e => by
    subst e
    rcases h.2 with ⟨hv, _⟩ | ⟨g, c, cur, hv, h5, _⟩
    · cases hv
    · injection hv with hv _ _; injection hv with hv; injection hv with hv _ _; rw [hv]; exact h5⟩
  obtain ⟨b, o, e, x⟩ := h1 i (by simpa [asI] using hi)
  refine ⟨b, o, e, ?_⟩
  rw [x]
  simp [asI, List.getD_eq_getElem?_getD, hi]
theorem filter_take {q : Nat → Bool} {ks : List Nat} {k : Nat} (h : k < ks.length) : asI ((ks.take (k + 1)).filter q) = asI ((ks.take k).filter q) ++ (if q (ks.getD k 0) = true then [((ks.getD k 0 : Nat) : Int)] else []) := by
  rw [List.take_succ_eq_append_getElem h, List.filter_append]
  have e : ks.getD k 0 = ks[k] := by simp [List.getD_eq_getElem?_getD, h]
  rw [e]
  unfold asI
  rw [List.map_append]
  by_cases hq : q ks[k] = true <;> simp [hq]
theorem filter_le (q : Nat → Bool) (ks : List Nat) (k : Nat) : (asI ((ks.take k).filter q)).length ≤ ks.length := by
  unfold asI
  rw [List.length_map]
  have h := List.length_filter_le q (ks.take k)
  rw [List.length_take] at h
  omega
set_option maxRecDepth 10000 in
set_option maxHeartbeats 4000000 in
theorem partners12_any (p : Pln) (x : PA) (lt : Int) (ra : Option Addr) (rl rc0 : Nat) (a2 a3 : Option Addr) (c2 c3 : Nat) (R : List Stm) (ks : List Nat) (w : World) (h0 : planErr p = 0) (h3 : p.kind ≠ 3) (hlt : tm.fitB lt = true) (hRt : ∀ k, k < R.length → tm.fitB (R.getD k default).t = true) (hR : stmsAt w a2 R) (hk : ∀ k ∈ ks, k < R.length) (hks : natsAt w a3 ks) (hl : ks.length ≤ 1000000) :
    Calls Tryz.prog 76 #[planV p x, .agg #[.int .i64 lt, .slice ra rl rc0], .slice a2 R.length c2, .slice a3 ks.length c3] w fun e w' => (∃ v, e = .returned v ∧ placesAt w.heap.size w' v (ks.filter (fun k => meetT p lt (R.getD k default).t))) ∧ Below w.heap.size w w' := by
  have K : Hid (∀ w1 k, k < R.length → Calls Tryz.prog 113 #[planV p x, .int .i64 lt, .int .i64 (R.getD k default).t] w1 fun e w' => e = .returned (.bool (meetT p lt (R.getD k default).t)) ∧ Below w1.heap.size w1 w') := fun w1 k hk => timesMeet_any p x lt _ w1 h0 h3 hlt (hRt k hk)
  have HF : Hid (∀ q : Nat → Bool, ∀ k, k < ks.length → asI ((ks.take (k + 1)).filter q) = asI ((ks.take k).filter q) ++ (if q (ks.getD k 0) = true then [((ks.getD k 0 : Nat) : Int)] else [])) := fun q k h => filter_take h
  have HLE : Hid (∀ q : Nat → Bool, ∀ k, (asI ((ks.take k).filter q)).length ≤ 1000000) := fun q k => Nat.le_trans (filter_le q ks k) hl
  have HK : Hid (∀ k, k < ks.length → ks.getD k 0 < R.length) := fun k h => hk _ (getD_mem h)
  have HR : Hid (stmsAt w a2 R) := hR
  have HN : Hid (natsAt w a3 ks) := hks
  obtain ⟨q, hq⟩ : ∃ q : Nat → Bool, (fun k => meetT p lt (R.getD k default).t) = q := ⟨_, rfl⟩
  have hq' : ∀ k, meetT p lt (R.getD k default).t = q k := fun k => by rw [← hq]
  rw [hq]
  simp only [hq'] at K
  clear hq hq' hR hk hks hlt hRt h0
  obtain ⟨n, hn⟩ : ∃ n, ks.length = n := ⟨_, rfl⟩
  have HNL : Hid (ks.length = n) := hn
  rw [hn] at HF HK hl ⊢
  clear hn
  obtain ⟨m, hm⟩ : ∃ n, R.length = n := ⟨_, rfl⟩
  have HML : Hid (R.length = m) := hm
  rw [hm] at HK K ⊢
  clear hm
  obtain ⟨kind, mode, low, high, size, limit, left, right, lkeys, rkeys, grouped, group, aggs⟩ := p
  obtain ⟨la, lc, rr, rc, lk, lkc, rk, rkc, g, gc, ag, ac⟩ := x
  unfold planV at K ⊢
  dsimp only at h3 K ⊢
  have h3' : (kind == 3) = false := by simpa using h3
  clear h3
  obtain ⟨n6, h6⟩ : ∃ n, left.length = n := ⟨_, rfl⟩
  obtain ⟨n7, h7⟩ : ∃ n, right.length = n := ⟨_, rfl⟩
  obtain ⟨n8, h8⟩ : ∃ n, lkeys.length = n := ⟨_, rfl⟩
  obtain ⟨n9, h9⟩ : ∃ n, rkeys.length = n := ⟨_, rfl⟩
  obtain ⟨n11, h11⟩ : ∃ n, group.length = n := ⟨_, rfl⟩
  obtain ⟨n12, h12⟩ : ∃ n, aggs.length = n := ⟨_, rfl⟩
  rw [h6, h7, h8, h9, h11, h12] at K
  rw [h6, h7, h8, h9, h11, h12]
  clear h6 h7 h8 h9 h11 h12
  go_enter Tryz.func76, Tryz.ntmps76
  go_wp2
  generalize hW0 : (World.alloc (World.alloc w _) _) = W0
  have hb0 : Below w.heap.size w W0 := by rw [← hW0]; exact ((Below.refl _ _).alloc (Nat.le_refl _) _).alloc (by simp) _
  have s0 : W0.cell? ⟨w.heap.size, 0, none⟩ = some (.int .i64 kind) := by subst hW0; go_simp
  have s1 : W0.cell? ⟨w.heap.size, 1, none⟩ = some (.int .i64 mode) := by subst hW0; go_simp
  have s2 : W0.cell? ⟨w.heap.size, 2, none⟩ = some (.int .i64 low) := by subst hW0; go_simp
  have s3 : W0.cell? ⟨w.heap.size, 3, none⟩ = some (.int .i64 high) := by subst hW0; go_simp
  have s4 : W0.cell? ⟨w.heap.size, 4, none⟩ = some (.int .i64 size) := by subst hW0; go_simp
  have s5 : W0.cell? ⟨w.heap.size, 5, none⟩ = some (.int .i64 limit) := by subst hW0; go_simp
  have s6 : W0.cell? ⟨w.heap.size, 6, none⟩ = some (.slice la n6 lc) := by subst hW0; go_simp
  have s7 : W0.cell? ⟨w.heap.size, 7, none⟩ = some (.slice rr n7 rc) := by subst hW0; go_simp
  have s8 : W0.cell? ⟨w.heap.size, 8, none⟩ = some (.slice lk n8 lkc) := by subst hW0; go_simp
  have s9 : W0.cell? ⟨w.heap.size, 9, none⟩ = some (.slice rk n9 rkc) := by subst hW0; go_simp
  have s10 : W0.cell? ⟨w.heap.size, 10, none⟩ = some (.bool grouped) := by subst hW0; go_simp
  have s11 : W0.cell? ⟨w.heap.size, 11, none⟩ = some (.slice g n11 gc) := by subst hW0; go_simp
  have s12 : W0.cell? ⟨w.heap.size, 12, none⟩ = some (.slice ag n12 ac) := by subst hW0; go_simp
  have s13 : W0.cell? ⟨w.heap.size + 1, 0, none⟩ = some (.int .i64 lt) := by subst hW0; go_simp
  clear hW0
  go_loopw [9, 11, 21] (fun v _ i wr => ∃ k : Nat, k ≤ n ∧ i = .int .i64 k ∧ ownI wr W0.heap.size v (asI ((ks.take k).filter q)) ∧ Below W0.heap.size W0 wr) (fun _ _ i _ => n - (intOf i).toNat)
  case atStart => exact ⟨0, Nat.zero_le _, rfl, World.ownsRow_nil _ _ _ _, Below.refl _ _⟩
  case round =>
    obtain ⟨k, hkn, rfl, hov, hnx⟩ := hrel
    have HO : Hid (ownI wr W0.heap.size u9 (asI ((ks.take k).filter q))) := hov
    clear hov
    have hbr := hb0.trans (hnx.mono hb0.size)
    have hsz := hnx.size
    have d0 := cell_later hnx s0
    have d1 := cell_later hnx s1
    have d2 := cell_later hnx s2
    have d3 := cell_later hnx s3
    have d4 := cell_later hnx s4
    have d5 := cell_later hnx s5
    have d6 := cell_later hnx s6
    have d7 := cell_later hnx s7
    have d8 := cell_later hnx s8
    have d9 := cell_later hnx s9
    have d10 := cell_later hnx s10
    have d11 := cell_later hnx s11
    have d12 := cell_later hnx s12
    have d13 := cell_later hnx s13
    by_cases hlt : k < n
    · obtain ⟨b3, o3, e3, y1⟩ := HN.out k (by rw [HNL.out]; exact hlt)
      subst e3
      have HT0 : Hid (asI ((ks.take (k + 1)).filter q) = asI ((ks.take k).filter q) ++ (if q (ks.getD k 0) = true then [((ks.getD k 0 : Nat) : Int)] else [])) := HF.out q k hlt
      have HLN := HLE.out q k
      have hpm0 := HK.out k hlt
      obtain ⟨at', hp⟩ : ∃ z, ks.getD k 0 = z := ⟨_, rfl⟩
      rw [hp] at y1 HT0 hpm0
      obtain ⟨b2, o2, ra2, rc2, e2, x1, x2, x3⟩ := HR.out at' (by rw [HML.out]; exact hpm0)
      subst e2
      have KK : Hid (∀ w1, _) := fun w1 => K.out w1 at' hpm0
      obtain ⟨t, ht⟩ : ∃ z, (R.getD at' default).t = z := ⟨_, rfl⟩
      rw [ht] at x1 KK
      have y2 := cell_later hbr y1
      have q1 := cell_later hbr x1
      clear x1 x2 x3 y1 ht hp
      obtain ⟨pr, hpr⟩ : ∃ z, asI ((ks.take k).filter q) = z := ⟨_, rfl⟩
      rw [hpr] at HO HT0 HLN
      clear hpr
      have i1 : (0 : Int) ≤ (k : Int) := by omega
      have i2 : (k : Int) < (n : Int) := by omega
      have j1 : (0 : Int) ≤ (at' : Int) := by omega
      have j2 : (at' : Int) < (m : Int) := by omega
      have dr : Below wr.heap.size wr wr.drew := (Below.refl _ _).drew
      cases hqa : q at' with
      | true =>
        rw [hqa] at KK
        have HT : Hid (asI ((ks.take (k + 1)).filter q) = pr ++ [(at' : Int)]) := by rw [HT0.out, if_pos hqa]; rfl
        clear HT0
        go_wp2
        go_region_held3 (fun w' => w'.cell? ⟨w.heap.size, 0, none⟩ = some (.int .i64 kind) ∧ w'.cell? ⟨w.heap.size, 1, none⟩ = some (.int .i64 mode) ∧ w'.cell? ⟨w.heap.size, 2, none⟩ = some (.int .i64 low) ∧ w'.cell? ⟨w.heap.size, 3, none⟩ = some (.int .i64 high) ∧ w'.cell? ⟨w.heap.size, 4, none⟩ = some (.int .i64 size) ∧ w'.cell? ⟨w.heap.size, 5, none⟩ = some (.int .i64 limit) ∧ w'.cell? ⟨w.heap.size, 6, none⟩ = some (.slice la n6 lc) ∧ w'.cell? ⟨w.heap.size, 7, none⟩ = some (.slice rr n7 rc) ∧ w'.cell? ⟨w.heap.size, 8, none⟩ = some (.slice lk n8 lkc) ∧ w'.cell? ⟨w.heap.size, 9, none⟩ = some (.slice rk n9 rkc) ∧ w'.cell? ⟨w.heap.size, 10, none⟩ = some (.bool grouped) ∧ w'.cell? ⟨w.heap.size, 11, none⟩ = some (.slice g n11 gc) ∧ w'.cell? ⟨w.heap.size, 12, none⟩ = some (.slice ag n12 ac) ∧ w'.cell? ⟨w.heap.size + 1, 0, none⟩ = some (.int .i64 lt) ∧ w'.cell? ⟨b2, o2 + at' * 2, none⟩ = some (.int .i64 t)) (first | go_keep | exact ⟨cell_later hbq d0, cell_later hbq d1, cell_later hbq d2, cell_later hbq d3, cell_later hbq d4, cell_later hbq d5, cell_later hbq d6, cell_later hbq d7, cell_later hbq d8, cell_later hbq d9, cell_later hbq d10, cell_later hbq d11, cell_later hbq d12, cell_later hbq d13, cell_later hbq q1⟩)
          (first | (go_at_call 113; refine (KK.out wr.drew).mono ?_; rintro e wq ⟨rfl, hbq⟩))
        all_goals
          have hq0 : Below wr.heap.size wr wq := dr.trans hbq
          have hnq := hnx.trans (hq0.mono hsz)
          have hsq := hnq.size
          have HOQ : Hid (ownI wq W0.heap.size u9 pr) := own_stay HO.out hq0
          go_wp2_with (at_builtin; refine append_int rfl (.tmp 34) (.tmp 36) rfl W0.heap.size u9 pr rfl wq HOQ.out at' wq.heap.size rfl rfl HLN hsq ?_; intro v2 w3 hown3 hgrow3)
          obtain ⟨ad2, cc2, hv, _⟩ := own_form hown3
          have hbn := below_appendI hnq hsq HOQ.out hgrow3
          subst hv
          go_roundw
          case rel => exact ⟨k + 1, by omega, by go_num, by rw [HT.out]; exact hown3, hbn⟩
          case measure => simp [intOf]; omega
      | false =>
        rw [hqa] at KK
        have HT : Hid (asI ((ks.take (k + 1)).filter q) = pr) := by rw [HT0.out, if_neg (by rw [hqa]; decide), List.append_nil]; rfl
        clear HT0
        go_wp2
        go_region_held3 (fun w' => w'.cell? ⟨w.heap.size, 0, none⟩ = some (.int .i64 kind) ∧ w'.cell? ⟨w.heap.size, 1, none⟩ = some (.int .i64 mode) ∧ w'.cell? ⟨w.heap.size, 2, none⟩ = some (.int .i64 low) ∧ w'.cell? ⟨w.heap.size, 3, none⟩ = some (.int .i64 high) ∧ w'.cell? ⟨w.heap.size, 4, none⟩ = some (.int .i64 size) ∧ w'.cell? ⟨w.heap.size, 5, none⟩ = some (.int .i64 limit) ∧ w'.cell? ⟨w.heap.size, 6, none⟩ = some (.slice la n6 lc) ∧ w'.cell? ⟨w.heap.size, 7, none⟩ = some (.slice rr n7 rc) ∧ w'.cell? ⟨w.heap.size, 8, none⟩ = some (.slice lk n8 lkc) ∧ w'.cell? ⟨w.heap.size, 9, none⟩ = some (.slice rk n9 rkc) ∧ w'.cell? ⟨w.heap.size, 10, none⟩ = some (.bool grouped) ∧ w'.cell? ⟨w.heap.size, 11, none⟩ = some (.slice g n11 gc) ∧ w'.cell? ⟨w.heap.size, 12, none⟩ = some (.slice ag n12 ac) ∧ w'.cell? ⟨w.heap.size + 1, 0, none⟩ = some (.int .i64 lt) ∧ w'.cell? ⟨b2, o2 + at' * 2, none⟩ = some (.int .i64 t)) (first | go_keep | exact ⟨cell_later hbq d0, cell_later hbq d1, cell_later hbq d2, cell_later hbq d3, cell_later hbq d4, cell_later hbq d5, cell_later hbq d6, cell_later hbq d7, cell_later hbq d8, cell_later hbq d9, cell_later hbq d10, cell_later hbq d11, cell_later hbq d12, cell_later hbq d13, cell_later hbq q1⟩)
          (first | (go_at_call 113; refine (KK.out wr.drew).mono ?_; rintro e wq ⟨rfl, hbq⟩))
        all_goals
          have hq0 : Below wr.heap.size wr wq := dr.trans hbq
          have hnq := hnx.trans (hq0.mono hsz)
          have HOQ : Hid (ownI wq W0.heap.size u9 pr) := own_stay HO.out hq0
          go_wp2
          go_roundw
          case rel => exact ⟨k + 1, by omega, by go_num, by rw [HT.out]; exact HOQ.out, hnq⟩
          case measure => simp [intOf]; omega
    · have HT : Hid ((ks.take k).filter q = ks.filter q) := by show (ks.take k).filter q = _; rw [List.take_of_length_le (by rw [HNL.out]; omega)]
      have HO2 : Hid (ownI wr W0.heap.size u9 (asI (ks.filter q))) := by have := HO.out; rw [HT.out] at this; exact this
      obtain ⟨ad, cap, hv, _⟩ := own_form HO2.out
      subst hv
      have HP : Hid (placesAt w.heap.size wr (.slice ad (asI (ks.filter q)).length cap) (ks.filter q)) := placesAt_mono (asI_places HO2.out) hb0.size
      obtain ⟨fn, hfn⟩ : ∃ z, (asI (ks.filter q)).length = z := ⟨_, rfl⟩
      rw [hfn] at HP ⊢
      clear HO HO2 HT hfn
      go_wp2
      go_ret
      exact ⟨⟨.slice ad fn cap, rfl, HP.out⟩, hbr⟩
end Go.Proofs.YtcpanmaahhiioaaGreat.bt

/- partnersOf at the places of a left row's key: the left row's partners. -/
namespace Go.Proofs.YtcpanmaahhiioaaGreat.bt
open Go.ChangeShapes Go.WideShapes Go.ChangeAt Go.RowKit
open vl pl
set_option linter.unusedVariables false
set_option linter.unusedSimpArgs false
theorem fits_at {R : List Stm} (h : fitsB R = true) (k : Nat) (hk : k < R.length) : tm.fitB (R.getD k default).t = true := by
  unfold fitsB at h
  exact allB_iff.1 h k hk
theorem partnersOf_any (p : Pln) (x : PA) (l : Stm) (ra : Option Addr) (rl rc0 : Nat) (a2 a3 : Option Addr) (c2 c3 : Nat) (R : List Stm) (w : World) (h0 : planErr p = 0) (hh : hasB p 1 l.r = true) (hlt : tm.fitB l.t = true) (hRt : fitsB R = true) (hR : stmsAt w a2 R)
    (hks : natsAt w a3 (placesOf p R (keyOfS p 1 l.r))) (hl : (placesOf p R (keyOfS p 1 l.r)).length ≤ 1000000) :
    Calls Tryz.prog 76 #[planV p x, .agg #[.int .i64 l.t, .slice ra rl rc0], .slice a2 R.length c2, .slice a3 (placesOf p R (keyOfS p 1 l.r)).length c3] w fun e w' => (∃ v, e = .returned v ∧ placesAt w.heap.size w' v (partners p l R)) ∧ Below w.heap.size w w' := by
  unfold partners
  rw [if_neg (by rw [hh]; decide)]
  by_cases h3 : p.kind = 3
  · rw [if_pos h3]
    exact partners3_any p x l.t ra rl rc0 a2 a3 c2 c3 R _ w h3 hR (fun k hk => (places_lt hk).1) hks (by omega)
  · rw [if_neg h3]
    exact partners12_any p x l.t ra rl rc0 a2 a3 c2 c3 R _ w h0 h3 hlt (fits_at hRt) hR (fun k hk => (places_lt hk).1) hks hl
end Go.Proofs.YtcpanmaahhiioaaGreat.bt

/- Which places a map of places holds, key by key. -/
namespace Go.Proofs.YtcpanmaahhiioaaGreat.bt
open Go.ChangeShapes Go.WideShapes Go.ChangeAt Go.RowKit Go.Maps
open vl pl
set_option linter.unusedVariables false
set_option linter.unusedSimpArgs false
/-- places, as a map holds them -/
def gdat (ks : List Nat) : DataW Unit := if ks = [] then .nil else .slice (lits .i64 (asI ks)) []
/-- the places below k of the rows with this key -/
def plTo (p : Pln) (R : List Stm) (s : ByteArray) (k : Nat) : List Nat := (List.range k).filter (atKey p R s)
/-- what the map holds behind k rows -/
def grp (p : Pln) (R : List Stm) (k : Nat) (D : DataW Unit) : Prop := IsMap D ∧ ∀ s : ByteArray, D.atKey (.string s.data.toList) .nil = gdat (plTo p R s k)
theorem plTo_succ (p : Pln) (R : List Stm) (s : ByteArray) (k : Nat) : plTo p R s (k + 1) = plTo p R s k ++ (if atKey p R s k = true then [k] else []) := by
  unfold plTo
  rw [List.range_succ, List.filter_append]
  by_cases h : atKey p R s k = true <;> simp [h]
theorem plTo_all (p : Pln) (R : List Stm) (s : ByteArray) : plTo p R s R.length = placesOf p R s := rfl
theorem grp_not {p : Pln} {R : List Stm} {k : Nat} {D : DataW Unit} (h : grp p R k D) (hh : hasB p 2 (R.getD k default).r = false) : grp p R (k + 1) D := by
  refine ⟨h.1, fun s => ?_⟩
  rw [h.2 s, plTo_succ, if_neg (by unfold atKey; rw [hh]; simp), List.append_nil]
theorem gdat_zs {w : World} {base : Nat} {v : Value} {zs : List Int} {ks : List Nat} (ho : w.ownsInts base 3 .i64 v zs) (h : gdat ks = rowDatum .i64 v zs) : zs = asI ks := by
  unfold gdat at h
  rcases ho.datum (H := Unit) with ⟨h1, h2⟩ | h1
  · rw [h1] at h
    subst h2
    split at h
    · rename_i e; subst e; rfl
    · cases h
  · rw [h1] at h
    split at h
    · cases h
    · injection h with h _
      unfold lits at h
      have inj : ∀ (a b : List Int), a.map (fun x => (DataW.lit (.int .i64 x) : DataW Unit)) = b.map (fun x => .lit (.int .i64 x)) → a = b := by
        intro a
        induction a with
        | nil => intro b h; cases b with
          | nil => rfl
          | cons _ _ => cases h
        | cons x a ih => intro b h; cases b with
          | nil => cases h
          | cons y b =>
            simp only [List.map_cons, List.cons.injEq] at h
            obtain ⟨h1, h2⟩ := h
            injection h1 with h1
            injection h1 with _ h1
            rw [h1, ih b h2]
      exact (inj _ _ h).symm
theorem grp_has {p : Pln} {R : List Stm} {k : Nat} {D : DataW Unit} {w : World} {base : Nat} {v : Value} {zs : List Int} (h : grp p R k D) (hh : hasB p 2 (R.getD k default).r = true) (ho : w.ownsInts base 3 .i64 v zs)
    (hat : D.atKey (.string (keyOfS p 2 (R.getD k default).r).data.toList) .nil = rowDatum .i64 v zs) :
    grp p R (k + 1) (D.put (.string (keyOfS p 2 (R.getD k default).r).data.toList) (.slice (lits .i64 (zs ++ [(k : Int)])) [])) := by
  obtain ⟨s0, hs0⟩ : ∃ z, keyOfS p 2 (R.getD k default).r = z := ⟨_, rfl⟩
  rw [hs0] at hat ⊢
  have hz : zs = asI (plTo p R s0 k) := gdat_zs ho (by rw [← h.2 s0]; exact hat)
  have hak : ∀ s, atKey p R s k = decide (s0 = s) := fun s => by unfold atKey; rw [hh, hs0]; rfl
  refine ⟨?_, fun s => ?_⟩
  · exact h.1.put _ _
  · rw [plTo_succ, hak]
    by_cases e : s0 = s
    · subst e
      rw [atKey_put_same h.1 (by trivial)]
      simp [gdat, hz, asI]
    · have hne : (Lit.string s.data.toList) ≠ .string s0.data.toList := fun hx => e (by
        injection hx with hx
        cases s; cases s0
        simp only at hx
        congr 1
        exact (Array.toList_inj.1 hx).symm)
      rw [atKey_put_other hne, h.2 s]
      simp [e]
end Go.Proofs.YtcpanmaahhiioaaGreat.bt

/- placesByKey: the map of the places of each key. -/
namespace Go.Proofs.YtcpanmaahhiioaaGreat.bt
open Go.ChangeShapes Go.WideShapes Go.ChangeAt Go.RowKit Go.Maps Go.WideMaps
open vl pl
set_option linter.unusedVariables false
set_option linter.unusedSimpArgs false
theorem grown_below {w w' : World} (h : Below w.heap.size w w') : w.grownBy w' none := ⟨h.os, h.tape, h.output, h.size, fun k hk _ => h.block k hk⟩
theorem groups_below {w w' : World} {base b n : Nat} {D : DataW Unit} (h : w.ownsGroups Tryz.prog 9 base 3 .i64 b n D) (hb : Below w.heap.size w w') : w'.ownsGroups Tryz.prog 9 base 3 .i64 b n D :=
  h.kept (grown_below hb) (by simp) (fun es clock _ x _ => by cases x.val.ownBlock <;> simp)
set_option maxRecDepth 100000 in
/-- the map, and all that it holds, where nothing from its block on has turned -/
theorem groups_mid {w w' : World} {base b n : Nat} {D : DataW Unit} (h : w.ownsGroups Tryz.prog 9 base 3 .i64 b n D) (hb : ∀ g, b ≤ g → g < w.heap.size → w'.heap[g]? = w.heap[g]?) : w'.ownsGroups Tryz.prog 9 base 3 .i64 b n D := by
  obtain ⟨es, clock, hb0, F, hs, rfl, hbb, hlen, hap⟩ := h
  have hblt : b < w.heap.size := (Array.getElem?_eq_some_iff.1 hb0).1
  have hin : ∀ v zs, w.ownsInts base 3 .i64 v zs → w'.ownsInts base 3 .i64 v zs := fun v zs ho =>
    ⟨ch.own_same ho.1 (fun g hg => hb g (by have := (ch.own_lt ho.1 hg).1; omega) (ch.own_lt ho.1 hg).2), ho.2⟩
  have hst : ∀ x ∈ es.toList, ∀ z, rowElem (H := Unit) w base 3 .i64 x.val = some z → rowElem w' base 3 .i64 x.val = some z := fun x hx z hz => by
    obtain ⟨zs, ho, rfl⟩ := rowElem_inv hz
    exact rowElem_mk (hin _ _ ho)
  obtain ⟨F1, hmap, _⟩ := F.stay hst
  refine ⟨es, clock, (hb b (Nat.le_refl _) hblt).trans hb0, F1, hs, by rw [hmap], hbb, fun x hx zs ho => ?_, hap⟩
  obtain ⟨y, hy⟩ := F.reads x hx
  obtain ⟨z, hz, _⟩ := WideElems.rd_val hy
  obtain ⟨zs0, ho0, _⟩ := rowElem_inv hz
  rw [ho.unique (hin _ _ ho0)]
  exact hlen x hx zs0 ho0
theorem keyS_len {p : Pln} {side : Int} {r : List Cel} (hw : wfRow r) : (keyOfS p side r).size ≤ maxLen := by
  show (if hasB p side r = true then encR (keyRow p side r) else []).toArray.size ≤ maxLen
  rw [List.size_toArray]
  split
  · rename_i h
    unfold hasB at h
    have h0 : rowErr p side r = 0 := by
      rw [Bool.and_eq_true] at h
      exact of_decide_eq_true h.1
    have h1 := rowErr_ok h0
    have hk := keys_in (side := side) h1.1
    have hok : rowOk (keyRow p side r) := pick_ok (by omega) (by rw [h1.2.2.1]; exact hk.1) h1.2.2.2.1 hw
    have h2 := encR_len (keyRow p side r) (fun c hc => (hok.2 c hc).1)
    have := hok.1
    unfold maxLen
    omega
  · exact Nat.zero_le _
theorem grp_nil (p : Pln) (R : List Stm) : grp p R 0 (.map []) := ⟨isMap_empty, fun s => rfl⟩
theorem law9 : Keyed Tryz.prog 9 := string_keyed Tryz.underlying9
theorem zeroI (w : World) : (zeroValue 22).run Tryz.prog w = .ok (.slice none 0 0) w := by kernel_rfl
set_option maxRecDepth 100000 in
set_option maxHeartbeats 4000000 in
theorem placesByKey_any (p : Pln) (x : PA) (a : Option Addr) (cap : Nat) (R : List Stm) (w : World) (hw : wfPlan p) (hp : planAt w p x) (hl : R.length ≤ 1000000) (ha : stmsAt w a R) (hwl : wfStms R) :
    Calls Tryz.prog 74 #[planV p x, .int .i64 2, .slice a R.length cap] w fun e w' => ∃ B n D, e = .returned (.map (some B)) ∧ w.heap.size ≤ B ∧ B < w'.heap.size ∧ n ≤ R.length ∧ w'.ownsGroups Tryz.prog 9 (B + 1) 3 .i64 B n D ∧ grp p R R.length D ∧ Below w.heap.size w w' := by
  have hmm := @run_makeMap Tryz.prog
  obtain ⟨i0, hi, hz0, hz1, hz2⟩ := info_parts Tryz.info3
  have HI : Hid (Tryz.prog.info? 3 = some i0 ∧ i0.zero = some (.int .i64 0) ∧ i0.size = 1 ∧ i0.bytes = 8) := ⟨hi, hz0, hz1, hz2⟩
  clear hi hz0 hz1 hz2
  have K1 : Hid (∀ w1 k ra rc, k < R.length → Below w.heap.size w w1 → vl.rowAt w1 ra (R.getD k default).r → Calls Tryz.prog 75 #[planV p x, .int .i64 2, .slice ra (R.getD k default).r.length rc] w1 fun e w' => e = .returned (.tuple #[.string (keyOfS p 2 (R.getD k default).r), .bool (hasB p 2 (R.getD k default).r), .int .i64 (rowErr p 2 (R.getD k default).r)]) ∧ Below w1.heap.size w1 w') := fun w1 k ra rc hk hb hr => by
    have hh := wfs_at hwl k hk
    exact keyOf_any p x 2 ra rc (R.getD k default).r w1 hw (planAt_below hp hb) hr hh.1 hh.2.1
  have HKL : Hid (∀ k, k < R.length → (keyOfS p 2 (R.getD k default).r).size ≤ maxLen) := fun k hk => keyS_len (wfs_at hwl k hk).1
  have HA : Hid (stmsAt w a R) := ha
  obtain ⟨G, hG⟩ : ∃ G : Nat → DataW Unit → Prop, G = grp p R := ⟨_, rfl⟩
  have G0 : Hid (G 0 (.map [])) := by rw [hG]; exact grp_nil p R
  have GN : Hid (∀ k D, G k D → hasB p 2 (R.getD k default).r = false → G (k + 1) D) := by rw [hG]; exact fun k D h hh => grp_not h hh
  have GH : Hid (∀ k D (w : World) base v zs, G k D → hasB p 2 (R.getD k default).r = true → w.ownsInts base 3 .i64 v zs → D.atKey (.string (keyOfS p 2 (R.getD k default).r).data.toList) .nil = rowDatum .i64 v zs → G (k + 1) (D.put (.string (keyOfS p 2 (R.getD k default).r).data.toList) (.slice (lits .i64 (zs ++ [(k : Int)])) []))) := by rw [hG]; exact fun k D w base v zs h hh ho hat => grp_has h hh ho hat
  rw [← hG]
  clear hG
  obtain ⟨KS, hKS⟩ : ∃ f : Nat → ByteArray, ∀ k, keyOfS p 2 (R.getD k default).r = f k := ⟨_, fun _ => rfl⟩
  obtain ⟨HB, hHB⟩ : ∃ f : Nat → Bool, ∀ k, hasB p 2 (R.getD k default).r = f k := ⟨_, fun _ => rfl⟩
  obtain ⟨RE, hRE⟩ : ∃ f : Nat → Int, ∀ k, rowErr p 2 (R.getD k default).r = f k := ⟨_, fun _ => rfl⟩
  simp only [hKS, hHB, hRE] at K1 HKL GN GH
  clear hKS hHB hRE hw hp ha hwl
  obtain ⟨n, hn⟩ : ∃ n, R.length = n := ⟨_, rfl⟩
  have HN : Hid (R.length = n) := hn
  rw [hn] at hl K1 HKL ⊢
  clear hn
  obtain ⟨kind, mode, low, high, size, limit, left, right, lkeys, rkeys, grouped, group, aggs⟩ := p
  obtain ⟨la, lc, rr, rc, lk, lkc, rk, rkc, g, gc, ag, ac⟩ := x
  unfold planV at K1 ⊢
  dsimp only at K1 ⊢
  obtain ⟨n6, h6⟩ : ∃ n, left.length = n := ⟨_, rfl⟩
  obtain ⟨n7, h7⟩ : ∃ n, right.length = n := ⟨_, rfl⟩
  obtain ⟨n8, h8⟩ : ∃ n, lkeys.length = n := ⟨_, rfl⟩
  obtain ⟨n9, h9⟩ : ∃ n, rkeys.length = n := ⟨_, rfl⟩
  obtain ⟨n11, h11⟩ : ∃ n, group.length = n := ⟨_, rfl⟩
  obtain ⟨n12, h12⟩ : ∃ n, aggs.length = n := ⟨_, rfl⟩
  rw [h6, h7, h8, h9, h11, h12] at K1
  rw [h6, h7, h8, h9, h11, h12]
  clear h6 h7 h8 h9 h11 h12
  go_enter Tryz.func74, Tryz.ntmps74
  go_wp2
  generalize hW0 : (World.alloc w _) = W0
  have hb0 : Below w.heap.size w W0 := by rw [← hW0]; exact (Below.refl _ _).alloc (Nat.le_refl _) _
  have HSZ0 : Hid (W0.heap.size = w.heap.size + 1) := by subst hW0; simp [Hid]
  have s0 : W0.cell? ⟨w.heap.size, 0, none⟩ = some (.int .i64 kind) := by subst hW0; go_simp
  have s1 : W0.cell? ⟨w.heap.size, 1, none⟩ = some (.int .i64 mode) := by subst hW0; go_simp
  have s2 : W0.cell? ⟨w.heap.size, 2, none⟩ = some (.int .i64 low) := by subst hW0; go_simp
  have s3 : W0.cell? ⟨w.heap.size, 3, none⟩ = some (.int .i64 high) := by subst hW0; go_simp
  have s4 : W0.cell? ⟨w.heap.size, 4, none⟩ = some (.int .i64 size) := by subst hW0; go_simp
  have s5 : W0.cell? ⟨w.heap.size, 5, none⟩ = some (.int .i64 limit) := by subst hW0; go_simp
  have s6 : W0.cell? ⟨w.heap.size, 6, none⟩ = some (.slice la n6 lc) := by subst hW0; go_simp
  have s7 : W0.cell? ⟨w.heap.size, 7, none⟩ = some (.slice rr n7 rc) := by subst hW0; go_simp
  have s8 : W0.cell? ⟨w.heap.size, 8, none⟩ = some (.slice lk n8 lkc) := by subst hW0; go_simp
  have s9 : W0.cell? ⟨w.heap.size, 9, none⟩ = some (.slice rk n9 rkc) := by subst hW0; go_simp
  have s10 : W0.cell? ⟨w.heap.size, 10, none⟩ = some (.bool grouped) := by subst hW0; go_simp
  have s11 : W0.cell? ⟨w.heap.size, 11, none⟩ = some (.slice g n11 gc) := by subst hW0; go_simp
  have s12 : W0.cell? ⟨w.heap.size, 12, none⟩ = some (.slice ag n12 ac) := by subst hW0; go_simp
  clear hW0
  go_loopw [16] (fun i wr => ∃ (k m : Nat) (D : DataW Unit), k ≤ n ∧ i = .int .i64 k ∧ m ≤ k ∧ wr.ownsGroups Tryz.prog 9 (w.heap.size + 1 + 1) 3 .i64 (w.heap.size + 1) m D ∧ G k D ∧ Below W0.heap.size W0 wr ∧ W0.heap.size + 1 ≤ wr.heap.size) (fun i _ => n - (intOf i).toNat)
  case atStart => exact ⟨0, 0, .map [], Nat.zero_le _, rfl, Nat.le_refl _, (by have := World.ownsGroups_made (H := Unit) W0 Tryz.prog 9 3 .i64; rw [HSZ0.out] at this; exact this), G0.out, (Below.refl _ _).alloc (Nat.le_refl _) _, by simp⟩
  case round =>
    obtain ⟨k, m, D, hk, rfl, hmk, hown, hgk, hnx, hws⟩ := hrel
    have HOW : Hid (wr.ownsGroups Tryz.prog 9 (w.heap.size + 1 + 1) 3 .i64 (w.heap.size + 1) m D) := hown
    have HGK : Hid (G k D) := hgk
    have hbr := hb0.trans (hnx.mono hb0.size)
    have hsz := hnx.size
    clear hown hgk
    have c0 := cell_later hnx s0
    have c1 := cell_later hnx s1
    have c2 := cell_later hnx s2
    have c3 := cell_later hnx s3
    have c4 := cell_later hnx s4
    have c5 := cell_later hnx s5
    have c6 := cell_later hnx s6
    have c7 := cell_later hnx s7
    have c8 := cell_later hnx s8
    have c9 := cell_later hnx s9
    have c10 := cell_later hnx s10
    have c11 := cell_later hnx s11
    have c12 := cell_later hnx s12
    by_cases hlt : k < n
    · obtain ⟨b, o, ra, rc2, e, x1, x2, x3⟩ := HA.out k (by rw [HN.out]; exact hlt)
      subst e
      have q1 := cell_later hbr x1
      have q2 := cell_later hbr x2
      have i1 : (0 : Int) ≤ (k : Int) := by omega
      have i2 : (k : Int) < (n : Int) := by omega
      have hlw : w.heap.size < wr.heap.size := World.block_lt_of_cell? _ _ c0
      have KK : Hid (∀ w1, Below wr.heap.size wr w1 → _) := fun w1 hb => K1.out w1 k ra rc2 hlt (hbr.trans (hb.mono hbr.size)) (rowAt_below (rowAt_below x3 hbr) hb)
      have hkl : (KS k).size ≤ maxLen := HKL.out k hlt
      have HKEY : Hid (keyOf Tryz.prog 9 (.string (KS k)) = some (.string (KS k).data.toList)) := keyOf_string_mk Tryz.underlying9 hkl
      have HGN : Hid (HB k = false → G (k + 1) D) := fun h => GN.out k D HGK.out h
      have HGH : Hid (∀ (w : World) base v zs, HB k = true → w.ownsInts base 3 .i64 v zs → D.atKey (.string (KS k).data.toList) .nil = rowDatum .i64 v zs → G (k + 1) (D.put (.string (KS k).data.toList) (.slice (lits .i64 (zs ++ [(k : Int)])) []))) := fun w base v zs h ho hat => GH.out k D w base v zs HGK.out h ho hat
      obtain ⟨hb', hhb⟩ : ∃ z, HB k = z := ⟨_, rfl⟩
      obtain ⟨ks, hks⟩ : ∃ z, KS k = z := ⟨_, rfl⟩
      obtain ⟨re, hre⟩ : ∃ z, RE k = z := ⟨_, rfl⟩
      rw [hhb, hks, hre] at KK
      rw [hhb] at HGN HGH
      rw [hks] at HKEY HGH
      obtain ⟨tv, htv⟩ : ∃ z, (R.getD k default).t = z := ⟨_, rfl⟩
      obtain ⟨rl, hrl⟩ : ∃ z, (R.getD k default).r.length = z := ⟨_, rfl⟩
      rw [htv] at q1
      rw [hrl] at q2 KK
      clear hhb hks hre htv hrl x1 x2 x3 hkl
      cases hb' with
      | false =>
        have HG2 : Hid (G (k + 1) D) := HGN.out rfl
        clear HGN HGH
        go_wp2_with fail
        refine (KK.out _ ((Below.refl _ _).alloc (Nat.le_refl _) _)).mono ?_
        rintro e w1 ⟨rfl, hb1⟩
        have hb2 : Below wr.heap.size wr w1 := ((Below.refl _ _).alloc (Nat.le_refl _) _).trans (hb1.mono (by simp))
        have HOW2 : Hid (w1.ownsGroups Tryz.prog 9 (w.heap.size + 1 + 1) 3 .i64 (w.heap.size + 1) m D) := groups_below HOW.out hb2
        have hbn := hnx.trans (hb2.mono hsz)
        have hs2 := hb2.size
        go_wp2
        go_roundw
        case rel => exact ⟨k + 1, m, D, by omega, by go_num, by omega, HOW2.out, HG2.out, hbn, by omega⟩
        case measure => simp [intOf]; omega
      | true =>
        clear HGN
        go_wp2_with fail
        refine (KK.out _ ((Below.refl _ _).alloc (Nat.le_refl _) _)).mono ?_
        rintro e w1 ⟨rfl, hb1⟩
        have hb2 : Below wr.heap.size wr w1 := ((Below.refl _ _).alloc (Nat.le_refl _) _).trans (hb1.mono (by simp))
        have HOW2 : Hid (w1.ownsGroups Tryz.prog 9 (w.heap.size + 1 + 1) 3 .i64 (w.heap.size + 1) m D) := groups_below HOW.out hb2
        have hbn := hnx.trans (hb2.mono hsz)
        have hs2 := hb2.size
        have hsn := hbn.size
        go_wp2_with (first
          | (at_lookup; refine wpList_lookup_groups _ rfl _ _ 113 rfl 9 22 3 .i64 law9 Tryz.underlying113 (zeroI _) (w.heap.size + 1 + 1) (w.heap.size + 1) m D rfl HOW2.out (by unfold maxLen; omega) _ _ rfl HKEY.out ?_; intro v zs hat hoi hzl hback)
          | (at_builtin; refine wpList_append_own_at _ rfl _ _ 22 rfl (w.heap.size + 1 + 1) 3 i0 (.int .i64 0) 1 8 Tryz.underlying22 HI.out.1 HI.out.2.1 HI.out.2.2.1 HI.out.2.2.2 rfl (by decide) _ _ _ rfl (hoi.1.alloc _) ⟨w1.heap.size, 0, none⟩ 1 1 [.int .i64 k] rfl rfl (cell_one_new _ _ _) (ints_oneCell .i64 [(k : Int)]) (by unfold maxLen; omega) (by omega) (by have := HSZ0.out; simp; omega) ?_; intro v' w2 hown' hgrow hnil hloc)
          | (at_mapUpdate; refine wpList_mapUpdate_back _ rfl _ _ _ 113 rfl hback rfl rfl rfl ((World.grownBy_alloc _ _ _).trans hgrow) (hoi.appended hown' (WalkArith.wf_i64 (by omega))) (by simp; omega) (hloc.imp id (fun h => ⟨_, h, by simp⟩)) ?_; intro w3 hown2 hgrow2)
          | go_in)
        have hall := (World.grownBy_alloc w1 _ _).trans hgrow
        have HG2 := HGH.out _ _ _ _ (by trivial) hoi hat
        have hown3 : w3.ownsGroups Tryz.prog 9 (w.heap.size + 1 + 1) 3 .i64 (w.heap.size + 1) (m + 1) (D.put (.string ks.data.toList) (rowDatum .i64 v' (zs ++ [(k : Int)]))) := hown2
        rw [(hoi.appended hown' (WalkArith.wf_i64 (by omega))).datum_pos (by simp)] at hown3
        have hs3 : w1.heap.size ≤ w3.heap.size := Nat.le_trans hall.size hgrow2.size
        go_roundw
        case rel => exact ⟨k + 1, m + 1, _, by omega, by go_num, by omega, hown3, HG2, hbn.groups hoi hall hgrow2 hsn (by have := HSZ0.out; omega) (by have := HSZ0.out; omega), by omega⟩
        case measure => simp [intOf]; omega
    · have hkn : k = n := by omega
      subst hkn
      go_wp2
      go_ret
      exact ⟨_, m, D, rfl, by omega, by have := HSZ0.out; omega, hmk, HOW.out, HGK.out, hbr⟩
end Go.Proofs.YtcpanmaahhiioaaGreat.bt
