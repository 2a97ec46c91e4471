import Derived.Test.YtdohnkkbkfhphaaGreatPo35
import Derived.Test.YtdohnkkbkfhphaaGreatPo24
namespace Go.Proofs.YtdohnkkbkfhphaaGreat.jn
open Go.ChangeShapes Go.WideShapes Go.ChangeAt Go.RowKit
open vl bf
set_option linter.unusedVariables false
set_option linter.unusedSimpArgs false
attribute [local go_sem] Oper.semAt_some
def chgsC (w : World) (a : Option Addr) (l : List ch.Chg) : Prop :=
 ∀ i, i < l.length → ∃ b off ra rc, a = some ⟨b, off, none⟩ ∧ w.cell? ⟨b, off + i * 2, none⟩ = some (.int .i64 (l.getD i default).k) ∧ w.cell? ⟨b, off + i * 2 + 1, none⟩ = some (.slice ra (l.getD i default).r.length rc) ∧ vl.rowAt w ra (l.getD i default).r ∧ (l.getD i default).r.length ≤ rc
theorem TG.chgsC {w : World} {base : Nat} {v : Value} {L : List CO} (h : TG w base v L) : v = .slice (adOf v) L.length (cpOf v) ∧ chgsC w (adOf v) (L.map CO.chg) := by
 have ho := h.own
 refine ⟨own_is ho, fun i hi => ?_⟩
 ·have hi2 : i < L.length := by simpa using hi
  rcases ho.2 with ⟨hv, h0⟩ | ⟨g, c, cur, hv, _⟩
  ·omega
  ·have hc := World.ownsRow.cells ho (g := g) (by rw [hv]; rfl)
   obtain ⟨f1, f2⟩ := ch.flatC_at (L.map CO.pair) i (by simpa using hi2)
   obtain ⟨e1, e2⟩ := getD_pair L i hi2
   rw [e1] at f1 f2
   have c1 := hc _ _ f1
   have c2 := hc _ _ f2
   rw [ch.add_at, Nat.zero_add] at c1 c2
   obtain ⟨bs, hr⟩ := h.rows (L.getD i default) (by rw [List.getD_eq_getElem?_getD, List.getElem?_eq_getElem hi2]; exact List.getElem_mem hi2)
   have hcap : (L.getD i default).row.length ≤ cpOf (L.getD i default).rv := by
    rcases hr.2 with ⟨hv, h0⟩ | ⟨g2, c2, cur2, hv2, _, _, hle, _⟩
    ·rw [h0]; exact Nat.zero_le _
    ·rw [hv2]; exact hle
   have er := own_is hr
   rw [er] at hr c2
   refine ⟨g, 0, adOf (L.getD i default).rv, cpOf (L.getD i default).rv, by rw [hv]; rfl, ?_, ?_, ?_, ?_⟩
   ·rw [e2, Nat.zero_add]; exact c1
   ·rw [e2, Nat.zero_add]; exact c2
   ·rw [e2]; exact vl.ownV_row hr
   ·rw [e2]; exact hcap
theorem chgsC_below {w w' : World} {a : Option Addr} {l : List ch.Chg} (h : chgsC w a l) (hb : Below w.heap.size w w') : chgsC w' a l := fun i hi => by
 obtain ⟨b, o, ra, rc, e, x1, x2, x3, x4⟩ := h i hi
 exact ⟨b, o, ra, rc, e, cLz hb x1, cLz hb x2, vl.rowAt_below x3 hb, x4⟩
theorem few_rows {p : pl.Pln} (h : pl.planErr p = 0) : (1 ≤ p.left.length ∧ p.left.length ≤ 4) ∧ (1 ≤ p.right.length ∧ p.right.length ≤ 4) := ⟨(pl.planErr_ok h).2.2.1.1.1, (pl.planErr_ok h).2.2.1.1.2.1⟩
set_option maxRecDepth 100000 in
set_option maxHeartbeats 16000000 in
theorem only_walk (p : pl.Pln) (x : pl.PA) (la : Option Addr) (lc : Nat) (l : List Ev) (xs : List RX) (w : World) (hw : pl.wfPlan p) (hp : pl.planAt w p x) (hv : evsAt w la l xs) (hn : l.length ≤ 9223372036854775807) :
 Calls Tryz.prog 6 #[pl.planV p x, .slice la l.length lc] w fun e w' => e = .returned (.bool true) ∧ Below w.heap.size w w' := by
 have hmx : Tryz.prog.follows .mixedOrders = true := rfl
 have KP : Hid (∀ w1, Below w.heap.size w w1 → Calls Tryz.prog 19 #[pl.planV p x, .slice la l.length lc] w1 fun e w' => (∃ y ta tc nv, e = .returned (.tuple #[joinV (playA p l).2.1 y, .slice ta (playA p l).2.2.1.length tc, nv, .int .i64 (playA p l).1]) ∧ chgsC w' ta (playA p l).2.2.1) ∧ Below w1.heap.size w1 w') := fun w1 hb => by
  refine (play_any p x l xs la lc w1 hw (pl.planAt_below hp hb) (evsAt_below hv hb) hn).mono ?_
  rintro e w' ⟨⟨y, t, L, nv, rfl, hl, _, ht, _⟩, hb'⟩
  obtain ⟨e1, e2⟩ := ht.chgsC
  have e4 : L.length = (playA p l).2.2.1.length := by rw [← hl, List.length_map]
  rw [hl] at e2
  rw [e4] at e1
  rw [e1]
  exact ⟨⟨y, adOf t, cpOf t, nv, rfl, e2⟩, hb'⟩
 have HO : Hid (onlyL p (playA p l).2.2.1) := only_playA (evsAt_wf hv)
 have HF : Hid ((playA p l).1 = 0 → (1 ≤ p.left.length ∧ p.left.length ≤ 4) ∧ (1 ≤ p.right.length ∧ p.right.length ≤ 4)) := fun h => few_rows (playA_good (evsAt_wf hv) h).1
 have HMX : Hid ((playA p l).2.2.1.length ≤ 1200000) := few_playA p l
 obtain ⟨PA, hPA⟩ : ∃ z, playA p l = z := ⟨_, rfl⟩
 rw [hPA] at KP HO HF HMX
 obtain ⟨E, S, T, N⟩ := PA
 dsimp only at KP HO HF HMX
 obtain ⟨ln, hln⟩ : ∃ z, l.length = z := ⟨_, rfl⟩
 rw [hln] at KP ⊢
 have HO2 : Hid (∀ i, i < T.length → onlyAt p T i) := HO.out
 unfold pl.planV at KP ⊢
 clear hPA hln hw hp hv hn HO
 obtain ⟨nl, hnl⟩ : ∃ z, p.left.length = z := ⟨_, rfl⟩
 obtain ⟨nr, hnr⟩ : ∃ z, p.right.length = z := ⟨_, rfl⟩
 unfold onlyAt at HO2
 rw [hnl, hnr] at KP HF HO2 ⊢
 clear hnl hnr
 go_enter Tryz.func6, Tryz.ntmps6
 go_wp2_with fail
 generalize hV : (World.alloc w _) = V
 have hb0 : Below w.heap.size w V := by rw [← hV]; exact bR.alloc nR _
 have p0 : V.cell? ⟨w.heap.size, 0, none⟩ = some (.int .i64 p.kind) := by subst hV; go_simp
 have p1 : V.cell? ⟨w.heap.size, 1, none⟩ = some (.int .i64 p.mode) := by subst hV; go_simp
 have p6 : V.cell? ⟨w.heap.size, 6, none⟩ = some (.slice x.l nl x.lc) := by subst hV; go_simp
 have p7 : V.cell? ⟨w.heap.size, 7, none⟩ = some (.slice x.r nr x.rc) := by subst hV; go_simp
 clear hV
 refine (KP.out _ hb0).mono ?_
 rintro e w1 ⟨⟨y, ta, tc, nv, rfl, hch⟩, hb1⟩
 have hbw : Below w.heap.size w w1 := hb0.trans (hb1.mono hb0.size)
 replace p0 := cLz hb1 p0
 replace p1 := cLz hb1 p1
 replace p6 := cLz hb1 p6
 replace p7 := cLz hb1 p7
 have HC : Hid (chgsC w1 ta T) := hch
 clear KP hch hb1 hb0
 rw [joinV_is]
 go_upto_region 2 with fail
 generalize hV : (World.alloc w1 _) = w2
 have hb2 : Below w1.heap.size w1 w2 := by rw [← hV]; exact bR.alloc nR _
 clear hV
 have hbw2 : Below w.heap.size w w2 := hbw.trans (hb2.mono hbw.size)
 replace p0 := cLz hb2 p0
 replace p1 := cLz hb2 p1
 replace p6 := cLz hb2 p6
 replace p7 := cLz hb2 p7
 replace HC : Hid (chgsC w2 ta T) := chgsC_below HC.out hb2
 clear hb2 hbw
 by_cases h0 : E = 0
 ·subst h0
  obtain ⟨⟨l1, l2⟩, r1, r2⟩ := HF.out (by trivial)
  obtain ⟨pk, hpk⟩ : ∃ z, p.kind = z := ⟨_, rfl⟩
  obtain ⟨pm, hpm⟩ : ∃ z, p.mode = z := ⟨_, rfl⟩
  rw [hpk] at p0 HO2
  rw [hpm] at p1 HO2
  obtain ⟨n, hnn⟩ : ∃ z, T.length = z := ⟨_, rfl⟩
  rw [hnn] at HO2 HMX ⊢
  have HN : Hid (T.length = n) := hnn
  have hmax : n ≤ 1200000 := HMX.out
  clear hpk hpm hnn HF HMX
  have hsum : IntKind.i64.wrap ((nl : Int) + (nr : Int)) = (nl : Int) + (nr : Int) := by rw [ch.wrap_is]; omega
  have KN := hIz (fun (w1 : World) => bt.rnulls_any nl w1 l1 l2)
  have KM := hIz (fun (w1 : World) => bt.rnulls_any nr w1 r1 r2)
  go_upto_region 6 with fail
  go_loopw [10, 11] (fun i _ wr => ∃ k : Nat, k ≤ n ∧ i = .int .i64 k ∧ Below w2.heap.size w2 wr) (fun i _ _ => n - (intOf i).toNat)
  case atStart => exact ⟨0, Nat.zero_le _, rfl, bR⟩
  case round =>
   obtain ⟨k, hkn, rfl, hnx⟩ := hrel
   by_cases hlt : k < n
   ·obtain ⟨b, o, ra, rc, e, x1, x2, x3, x4⟩ := HC.out k (by rw [HN.out]; exact hlt)
    subst e
    obtain ⟨o1, o2, o3⟩ := HO2.out k hlt
    obtain ⟨row, hrow⟩ : ∃ z, (T.getD k default).r = z := ⟨_, rfl⟩
    obtain ⟨kd, hkd⟩ : ∃ z, (T.getD k default).k = z := ⟨_, rfl⟩
    rw [hrow] at x2 x3 x4 o1 o3
    rw [hkd] at x1 o2 o3
    obtain ⟨rl, hrl⟩ : ∃ z, row.length = z := ⟨_, rfl⟩
    have HRL : Hid (row.length = rl) := hrl
    rw [hrl] at x2 x4 o1
    have HX3 : Hid (vl.rowAt w2 ra row) := x3
    have g1 := cLz hnx x1
    have g2 := cLz hnx x2
    have i1 : (0 : Int) ≤ (k : Int) := by omega
    have i2 : (k : Int) < (n : Int) := by omega
    have d1 : ((rl : Int) != (nl : Int) + (nr : Int)) = false := by
     rw [o1]
     simp
    have HO3 : Hid (kd = 3 → (pk ≠ 3 → pm ≠ 1) ∧ (pk = 3 → k + 1 < n ∧ (T.getD (k + 1) default).r.length = nl + nr ∧ (T.getD (k + 1) default).r.take nl = row.take nl) ∧ (pk ≠ 3 → row.take nl = bt.nullRow nl ∨ row.drop nl = bt.nullRow nr)) := by
     exact o3
    have HO1 : Hid (rl = nl + nr) := o1
    obtain ⟨fa, hs1, hfront⟩ := rowFront ra rl rc nl (by omega) x4
    obtain ⟨ba, bc, hs2, hback⟩ := rowBack ra rl rc nl (by omega) x4
    have HFR : Hid (∀ w', Below w2.heap.size w2 w' → vl.rowAt w' fa (row.take nl)) := fun w' hb => hfront w' row HRL.out (vl.rowAt_below HX3.out hb)
    have HBK : Hid (∀ w', Below w2.heap.size w2 w' → vl.rowAt w' ba (row.drop nl)) := fun w' hb => hback w' row HRL.out (vl.rowAt_below HX3.out hb)
    have q0 := cLz hnx p0
    have q1 := cLz hnx p1
    have q7 := cLz hnx p7
    have hs2' : ∀ w, (Instr.sliceAt 41 (.slice ra rl rc) (some (.int .i64 nl)) none none).run Tryz.prog w = .ok (.slice ba nr bc) w := by
     intro w'
     rw [hs2 w', show rl - nl = nr by omega]
    clear x1 x2 x3 hrow hkd hrl o1 o3 hfront hback hs2
    rcases o2 with e | e | e
    ·subst e
     go_wp2
     go_roundw
     case rel => exact ⟨k + 1, by omega, by go_num, hnx⟩
     case measure => simp [intOf]; omega
    ·subst e
     obtain ⟨j1, j2, j3⟩ := HO3.out (by trivial)
     by_cases hk3 : pk = 3
     ·subst hk3
      obtain ⟨m1, m2, m3⟩ := j2 (by trivial)
      obtain ⟨b2, o2', ra2, rc2, e2, z1, z2, z3, z4⟩ := HC.out (k + 1) (by rw [HN.out]; exact m1)
      cases e2
      rw [m2] at z2 z4
      rw [← HO1.out] at z2 z4
      obtain ⟨fa2, hs3, hfront2⟩ := rowFront ra2 rl rc2 nl (by have := HO1.out; omega) z4
      have KS1 : Hid (∀ w1, Below w2.heap.size w2 w1 → Calls Tryz.prog 22 #[.slice fa2 nl rc2, .slice fa nl rc] w1 fun e w' => e = .returned (.bool true) ∧ Below w1.heap.size w1 w') := fun w1 hb => by
       have h1 := hfront2 w1 _ (m2.trans HO1.out.symm) (vl.rowAt_below z3 hb)
       rw [m3] at h1
       have hl : (row.take nl).length = nl := by rw [List.length_take, HRL.out, HO1.out]; omega
       have := vl.same_any fa2 fa rc2 rc (row.take nl) (row.take nl) w1 h1 (HFR.out w1 hb) (by omega) (by omega)
       rw [hl, decide_eq_true rfl] at this
       exact this
      have f2 := cLz hnx z2
      have hwk : IntKind.i64.wrap ((k : Int) + 1) = (k : Int) + 1 := by rw [ch.wrap_is]; omega
      have h4' : (k : Int) + 1 < (n : Int) := by omega
      have h5' : ((k : Int) + 1 == (n : Int)) = false := by rw [beq_eq_false_iff_ne]; omega
      have h6' : (0 : Int) ≤ (k : Int) + 1 := by omega
      clear j1 j2 j3 m1 m2 m3 z1 z2 z3 z4 hfront2
      by_cases hm1 : pm = 1
      ·subst hm1
       go_upto_region 13 with fail
       refine gr.beginH (S := fun w' => w'.cell? ⟨b, o + (k + 1) * 2 + 1, none⟩ = some (.slice ra2 rl rc2)) 20 rfl hmx (cLz bR.drew f2) ?_
       intro hHz
       refine tkz 0 80 hHz ?_; refine tkz 1 81 hHz ?_; refine tkz 2 82 hHz ?_; refine tkz 3 83 hHz ?_; refine tkz 4 84 hHz ?_; refine tkz 5 85 hHz ?_; refine tkz 6 86 hHz ?_; refine tkz 7 87 hHz ?_; refine tkz 8 88 hHz ?_; refine tkz 9 89 hHz ?_; refine tkz 10 90 hHz ?_; refine tkz 11 91 hHz ?_; refine tkz 12 92 hHz ?_; refine tkz 13 93 hHz ?_; refine tkz 14 94 hHz ?_; refine tkz 15 95 hHz ?_; refine tkz 16 96 hHz ?_
       refine wpAnyH_ready (rs := [17]) (by kernel_rfl) (by simp) ?_
       refine AllReadyH.cons rfl (fun K hK => ?_) AllReadyH.nil
       go_simp
       go_at_call 22
       refine (KS1.out _ (hnx.drew)).mono ?_
       rintro e w4 ⟨rfl, hb4⟩
       have hn4 : Below w2.heap.size w2 w4 := hnx.drew.trans (hb4.mono hnx.drew.size)
       go_wp2_with fail
       refine hK.out _ _ (cLz hb4 hHz) (fun hHz => ?_)
       clear hK K
       try simp only [Act.put, sI, sZ, sS]
       refine tkz 18 98 hHz ?_; refine tkz 19 99 hHz ?_
       refine wpAnyH_done (by kernel_rfl) ?_ _
       go_wp2
       go_roundw
       case rel => exact ⟨k + 1, by omega, by go_num, hn4⟩
       case measure => simp [intOf]; omega
      ·have hm1' : (pm == 1) = false := by simpa using hm1
       go_upto_region 13 with fail
       refine gr.beginH (S := fun w' => w'.cell? ⟨b, o + (k + 1) * 2 + 1, none⟩ = some (.slice ra2 rl rc2)) 20 rfl hmx (cLz bR.drew f2) ?_
       intro hHz
       refine tkz 0 80 hHz ?_; refine tkz 1 81 hHz ?_; refine tkz 2 82 hHz ?_; refine tkz 3 83 hHz ?_; refine tkz 4 84 hHz ?_; refine tkz 5 85 hHz ?_; refine tkz 6 86 hHz ?_; refine tkz 7 87 hHz ?_; refine tkz 8 88 hHz ?_; refine tkz 9 89 hHz ?_; refine tkz 10 90 hHz ?_; refine tkz 11 91 hHz ?_; refine tkz 12 92 hHz ?_; refine tkz 13 93 hHz ?_; refine tkz 14 94 hHz ?_; refine tkz 15 95 hHz ?_; refine tkz 16 96 hHz ?_
       refine wpAnyH_ready (rs := [17]) (by kernel_rfl) (by simp) ?_
       refine AllReadyH.cons rfl (fun K hK => ?_) AllReadyH.nil
       go_simp
       go_at_call 22
       refine (KS1.out _ (hnx.drew)).mono ?_
       rintro e w4 ⟨rfl, hb4⟩
       have hn4 : Below w2.heap.size w2 w4 := hnx.drew.trans (hb4.mono hnx.drew.size)
       go_wp2_with fail
       refine hK.out _ _ (cLz hb4 hHz) (fun hHz => ?_)
       clear hK K
       try simp only [Act.put, sI, sZ, sS]
       refine tkz 18 98 hHz ?_; refine tkz 19 99 hHz ?_
       refine wpAnyH_done (by kernel_rfl) ?_ _
       go_wp2
       go_roundw
       case rel => exact ⟨k + 1, by omega, by go_num, hn4⟩
       case measure => simp [intOf]; omega
     ·have hk3' : (pk == 3) = false := by simpa using hk3
      have hk3n : (pk != 3) = true := by simpa using hk3
      have hm1' : (pm == 1) = false := by simpa using j1 hk3
      have hj := j3 hk3
      clear j1 j2 j3
      have hl : (row.take nl).length = nl := by rw [List.length_take, HRL.out, HO1.out]; omega
      have hl2 : (row.drop nl).length = nr := by rw [List.length_drop, HRL.out, HO1.out]; omega
      by_cases hA : row.take nl = bt.nullRow nl
      ·have KS1 : Hid (∀ qa w1, Below w2.heap.size w2 w1 → vl.rowAt w1 qa (bt.nullRow nl) → Calls Tryz.prog 22 #[.slice fa nl rc, .slice qa nl nl] w1 fun e w' => e = .returned (.bool true) ∧ Below w1.heap.size w1 w') := fun qa w1 hb hq => by
        have := vl.same_any fa qa rc nl (row.take nl) (bt.nullRow nl) w1 (HFR.out w1 hb) hq (by omega) (by rw [null_len]; omega)
        rw [hl, null_len, decide_eq_true hA] at this
        exact this
       clear hj hA hl hl2
       go_upto_region 15 with fail
       refine gr.beginH (S := fun w' => w'.cell? ⟨w.heap.size, 7, none⟩ = some (.slice x.r nr x.rc)) 18 rfl hmx (cLz bR.drew q7) ?_
       intro hHz
       refine tkz 0 100 hHz ?_; refine tkz 1 101 hHz ?_; refine tkz 2 102 hHz ?_; refine tkz 3 103 hHz ?_
       refine wpAnyH_ready (rs := [4]) (by kernel_rfl) (by simp) ?_
       refine AllReadyH.cons rfl (fun K hK => ?_) AllReadyH.nil
       go_simp
       go_at_call 23
       refine (KN.out _).mono ?_
       rintro e w4 ⟨⟨rfl, hq4⟩, hb4⟩
       have hn4 : Below w2.heap.size w2 w4 := hnx.drew.trans (hb4.mono hnx.drew.size)
       have HQ4 : Hid (vl.rowAt w4 (some ⟨wr.drew.heap.size, 0, none⟩) (bt.nullRow nl)) := hq4
       clear hq4
       go_wp2_with fail
       refine hK.out _ _ (cLz hb4 hHz) (fun hHz => ?_)
       clear hK K
       try simp only [Act.put, sI, sZ, sS]
       refine wpAnyH_ready (rs := [5]) (by kernel_rfl) (by simp) ?_
       refine AllReadyH.cons rfl (fun K hK => ?_) AllReadyH.nil
       go_simp
       go_at_call 22
       refine (KS1.out _ _ hn4 HQ4.out).mono ?_
       rintro e w5 ⟨rfl, hb5⟩
       have hn5 : Below w2.heap.size w2 w5 := hn4.trans (hb5.mono hn4.size)
       go_wp2_with fail
       refine hK.out _ _ (cLz hb5 hHz) (fun hHz => ?_)
       clear hK K
       try simp only [Act.put, sI, sZ, sS]
       refine tkz 6 106 hHz ?_; refine tkz 7 107 hHz ?_; refine sk 8 108 hHz ?_; refine sk 9 109 hHz ?_; refine sk 10 110 hHz ?_; refine sk 11 111 hHz ?_; refine sk 12 112 hHz ?_; refine sk 13 113 hHz ?_; refine sk 14 114 hHz ?_; refine sk 15 115 hHz ?_; refine sk 16 116 hHz ?_; refine tkz 17 117 hHz ?_
       refine wpAnyH_done (by kernel_rfl) ?_ _
       go_wp2
       go_roundw
       case rel => exact ⟨k + 1, by omega, by go_num, hn5⟩
       case measure => simp [intOf]; omega
      ·have hB := hj.resolve_left hA
       have KS1 : Hid (∀ qa w1, Below w2.heap.size w2 w1 → vl.rowAt w1 qa (bt.nullRow nl) → Calls Tryz.prog 22 #[.slice fa nl rc, .slice qa nl nl] w1 fun e w' => e = .returned (.bool false) ∧ Below w1.heap.size w1 w') := fun qa w1 hb hq => by
        have := vl.same_any fa qa rc nl (row.take nl) (bt.nullRow nl) w1 (HFR.out w1 hb) hq (by omega) (by rw [null_len]; omega)
        rw [hl, null_len, decide_eq_false hA] at this
        exact this
       have KS2 : Hid (∀ qa w1, Below w2.heap.size w2 w1 → vl.rowAt w1 qa (bt.nullRow nr) → Calls Tryz.prog 22 #[.slice ba nr bc, .slice qa nr nr] w1 fun e w' => e = .returned (.bool true) ∧ Below w1.heap.size w1 w') := fun qa w1 hb hq => by
        have := vl.same_any ba qa bc nr (row.drop nl) (bt.nullRow nr) w1 (HBK.out w1 hb) hq (by omega) (by rw [null_len]; omega)
        rw [hl2, null_len, decide_eq_true hB] at this
        exact this
       clear hj hA hB hl hl2
       go_upto_region 15 with fail
       refine gr.beginH (S := fun w' => w'.cell? ⟨w.heap.size, 7, none⟩ = some (.slice x.r nr x.rc)) 18 rfl hmx (cLz bR.drew q7) ?_
       intro hHz
       refine tkz 0 100 hHz ?_; refine tkz 1 101 hHz ?_; refine tkz 2 102 hHz ?_; refine tkz 3 103 hHz ?_
       refine wpAnyH_ready (rs := [4]) (by kernel_rfl) (by simp) ?_
       refine AllReadyH.cons rfl (fun K hK => ?_) AllReadyH.nil
       go_simp
       go_at_call 23
       refine (KN.out _).mono ?_
       rintro e w4 ⟨⟨rfl, hq4⟩, hb4⟩
       have hn4 : Below w2.heap.size w2 w4 := hnx.drew.trans (hb4.mono hnx.drew.size)
       have HQ4 : Hid (vl.rowAt w4 (some ⟨wr.drew.heap.size, 0, none⟩) (bt.nullRow nl)) := hq4
       clear hq4
       go_wp2_with fail
       refine hK.out _ _ (cLz hb4 hHz) (fun hHz => ?_)
       clear hK K
       try simp only [Act.put, sI, sZ, sS]
       refine wpAnyH_ready (rs := [5]) (by kernel_rfl) (by simp) ?_
       refine AllReadyH.cons rfl (fun K hK => ?_) AllReadyH.nil
       go_simp
       go_at_call 22
       refine (KS1.out _ _ hn4 HQ4.out).mono ?_
       rintro e w5 ⟨rfl, hb5⟩
       have hn5 : Below w2.heap.size w2 w5 := hn4.trans (hb5.mono hn4.size)
       go_wp2_with fail
       refine hK.out _ _ (cLz hb5 hHz) (fun hHz => ?_)
       clear hK K
       try simp only [Act.put, sI, sZ, sS]
       refine tkz 6 106 hHz ?_; refine tkz 7 107 hHz ?_; refine tkz 8 108 hHz ?_; refine tkz 9 109 hHz ?_; refine tkz 10 110 hHz ?_; refine tkz 11 111 hHz ?_; refine tkz 12 112 hHz ?_; refine tkz 13 113 hHz ?_
       refine wpAnyH_ready (rs := [14]) (by kernel_rfl) (by simp) ?_
       refine AllReadyH.cons rfl (fun K hK => ?_) AllReadyH.nil
       go_simp
       go_at_call 23
       refine (KM.out _).mono ?_
       rintro e w6 ⟨⟨rfl, hq6⟩, hb6⟩
       have hn6 : Below w2.heap.size w2 w6 := hn5.trans (hb6.mono hn5.size)
       have HQ6 : Hid (vl.rowAt w6 (some ⟨w5.heap.size, 0, none⟩) (bt.nullRow nr)) := hq6
       clear hq6
       go_wp2_with fail
       refine hK.out _ _ (cLz hb6 hHz) (fun hHz => ?_)
       clear hK K
       try simp only [Act.put, sI, sZ, sS]
       refine wpAnyH_ready (rs := [15]) (by kernel_rfl) (by simp) ?_
       refine AllReadyH.cons rfl (fun K hK => ?_) AllReadyH.nil
       go_simp
       go_at_call 22
       refine (KS2.out _ _ hn6 HQ6.out).mono ?_
       rintro e w7 ⟨rfl, hb7⟩
       have hn7 : Below w2.heap.size w2 w7 := hn6.trans (hb7.mono hn6.size)
       go_wp2_with fail
       refine hK.out _ _ (cLz hb7 hHz) (fun hHz => ?_)
       clear hK K
       try simp only [Act.put, sI, sZ, sS]
       refine tkz 16 116 hHz ?_; refine tkz 17 117 hHz ?_
       refine wpAnyH_done (by kernel_rfl) ?_ _
       go_wp2
       go_roundw
       case rel => exact ⟨k + 1, by omega, by go_num, hn7⟩
       case measure => simp [intOf]; omega
    ·subst e
     go_wp2
     go_roundw
     case rel => exact ⟨k + 1, by omega, by go_num, hnx⟩
     case measure => simp [intOf]; omega
   ·have hke : k = n := by omega
    subst hke
    go_wp2_with fail
    refine (begun_any _).mono ?_
    rintro e w5 ⟨rfl, hb5⟩
    go_wp2
    go_ret
    exact ⟨rfl, (hbw2.trans (hnx.mono hbw2.size)).trans (hb5.mono (Nat.le_trans hbw2.size hnx.size))⟩
 ·have hne : (E != 0) = true := by simpa using h0
  go_wp2_with fail
  refine (begun_any _).mono ?_
  rintro e w5 ⟨rfl, hb5⟩
  go_wp2
  go_ret
  exact ⟨rfl, hbw2.trans (hb5.mono hbw2.size)⟩
end Go.Proofs.YtdohnkkbkfhphaaGreat.jn
