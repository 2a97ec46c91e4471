import Derived.Test.YtdohnkkbkfhphaaGreatPe37
import Derived.Test.YtdohnkkbkfhphaaGreatPe14
import Derived.Test.YtdohnkkbkfhphaaGreatPe26
namespace Go.Proofs.YtdohnkkbkfhphaaGreat.jn
open Go.ChangeShapes Go.WideShapes Go.ChangeAt Go.RowKit
open vl bf
set_option linter.unusedVariables false
set_option linter.unusedSimpArgs false
attribute [local go_sem] Oper.semAt_some
def endK (p : pl.Pln) (s : Jn) : Nat → Jn
 | 0 => s
 | 1 => forgetJ p (goOnJ s 1 1099511627776)
 | _ => endJ p s
theorem endK_good {p : pl.Pln} {s : Jn} (hp : pl.planErr p = 0) (h : goodJ p s) : ∀ k, goodJ p (endK p s k)
 | 0 => h
 | 1 => end_good hp h (side := 1) (by decide)
 | _ + 2 => endJ_good hp h
theorem endK_step {p : pl.Pln} {s : Jn} (hp : pl.planErr p = 0) (h : goodJ p s) : stepJ p (endK p s 0) (endE 1) = (0, endK p s 1, []) ∧ stepJ p (endK p s 1) (endE 2) = (0, endK p s 2, []) := ⟨end_step hp h (side := 1) (by decide), end_step hp (endK_good hp h 1) (side := 2) (by decide)⟩
theorem step_end1 (p : pl.Pln) (x : pl.PA) (s : Jn) (y : JX) (side : Int) (NS : Jn) (w : World) (hw : pl.wfPlan p) (hp : pl.planAt w p x) (h : joinAt w s y) (hg : goodJ p s) (he : stepJ p s (endE side) = (0, NS, [])) :
 Calls Tryz.prog 16 #[pl.planV p x, joinV s y, .agg #[.int .i64 2, .int .i64 side, .int .i64 1099511627776, .slice none 0 0]] w fun e w' => (∃ y' t, e = .returned (.tuple #[joinV NS y', t, .int .i64 0]) ∧ OB w' w.heap.size y'.l NS.L ∧ OB w' w.heap.size y'.r NS.R) ∧ Below w.heap.size w w' := by
 refine (step_any p x s y (endE side) none 0 w hw hp h (wf_good hg) ⟨fun i hi => absurd hi (Nat.not_lt_zero i), fun c hc => absurd hc List.not_mem_nil, Nat.zero_le _⟩).mono ?_
 rintro e w' ⟨⟨y', t, L, rfl, _, hst⟩, hb⟩
 rw [he] at hst ⊢
 exact ⟨⟨y', t, rfl, hst.l, hst.r⟩, hb⟩
set_option maxRecDepth 100000 in
set_option maxHeartbeats 16000000 in
theorem ends_walk (p : pl.Pln) (x : pl.PA) (la : Option Addr) (lc : Nat) (l : List Ev) (xs : List RX) (qa : Option Addr) (qc : Nat) (q : List Cel) (tt : Int) (w : World) (hw : pl.wfPlan p) (hp : pl.planAt w p x) (hv : evsAt w la l xs) (hn : l.length ≤ 9223372036854775807) (hq : vl.rowAt w qa q) (hqw : wfRow q) (hql : q.length ≤ 9223372036854775807) :
 Calls Tryz.prog 8 #[pl.planV p x, .slice la l.length lc, .slice qa q.length qc, .int .i64 tt] w fun e w' => e = .returned (.bool true) ∧ Below w.heap.size w w' := by
 have hmx : Tryz.prog.follows .mixedOrders = true := rfl
 have KP : Hid (∀ w1, Below w.heap.size w w1 → Calls Tryz.prog 19 #[pl.planV p x, .slice la l.length lc] w1 fun e w' => (∃ y t nv, e = .returned (.tuple #[joinV (playA p l).2.1 y, t, nv, .int .i64 (playA p l).1]) ∧ joinAt w' (playA p l).2.1 y) ∧ Below w1.heap.size w1 w') := fun w1 hb => by
  refine (play_any p x l xs la lc w1 hw (pl.planAt_below hp hb) (evsAt_below hv hb) hn).mono ?_
  rintro e w' ⟨⟨y, t, L, nv, rfl, _, hj, _, _⟩, hb'⟩
  exact ⟨⟨y, t, nv, rfl, hj⟩, hb'⟩
 have HG : Hid ((playA p l).1 = 0 → pl.planErr p = 0 ∧ goodJ p (playA p l).2.1) := fun h => playA_good (evsAt_wf hv) h
 have HER : Hid ((playA p l).1 ≠ 0 → (playA p l).1 = 2 ∨ (playA p l).1 = pl.planErr p) := fun h => playA_err h
 have KC := hIz (fun (w1 : World) (hb : Below w.heap.size w w1) => pl.checkPlan_any p x w1 hw (pl.planAt_below hp hb))
 obtain ⟨PA, hPA⟩ : ∃ z, playA p l = z := ⟨_, rfl⟩
 rw [hPA] at KP HG HER
 obtain ⟨E, S, T, N⟩ := PA
 dsimp only at KP HG HER
 obtain ⟨ln, hln⟩ : ∃ z, l.length = z := ⟨_, rfl⟩
 rw [hln] at KP ⊢
 have KS : Hid (∀ s y side NS w1, Below w.heap.size w w1 → joinAt w1 s y → goodJ p s → stepJ p s (endE side) = (0, NS, []) → Calls Tryz.prog 16 #[pl.planV p x, joinV s y, .agg #[.int .i64 2, .int .i64 side, .int .i64 1099511627776, .slice none 0 0]] w1 fun e w' => (∃ y' t, e = .returned (.tuple #[joinV NS y', t, .int .i64 0]) ∧ OB w' w1.heap.size y'.l NS.L ∧ OB w' w1.heap.size y'.r NS.R) ∧ Below w1.heap.size w1 w') := fun s y side NS w1 hb h1 h2 h3 => step_end1 p x s y side NS w1 hw (pl.planAt_below hp hb) h1 h2 h3
 have KL : Hid (∀ s y w1, Below w.heap.size w w1 → joinAt w1 s y → goodJ p s → (stepJ p s ⟨1, 1, tt, q⟩).1 ≠ 0 → Calls Tryz.prog 16 #[pl.planV p x, joinV s y, .agg #[.int .i64 1, .int .i64 1, .int .i64 tt, .slice qa q.length qc]] w1 fun e w' => (∃ s' y' t z, e = .returned (.tuple #[joinV s' y', t, .int .i64 z]) ∧ z ≠ 0) ∧ Below w1.heap.size w1 w') := fun s y w1 hb h1 h2 h3 => by
  refine (step_any p x s y ⟨1, 1, tt, q⟩ qa qc w1 hw (pl.planAt_below hp hb) h1 (wf_good h2) ⟨vl.rowAt_below hq hb, hqw, hql⟩).mono ?_
  rintro e w' ⟨⟨y', t, L, rfl, _, _⟩, hb'⟩
  exact ⟨⟨_, y', t, _, rfl, h3⟩, hb'⟩
 obtain ⟨ql, hql2⟩ : ∃ z, q.length = z := ⟨_, rfl⟩
 rw [hql2] at KL ⊢
 have HBXP : Hid (∀ w1 : World, boxP (w1.alloc (.cells #[.int .i64 p.kind, .int .i64 p.mode, .int .i64 p.low, .int .i64 p.high, .int .i64 p.size, .int .i64 p.limit, .slice x.l p.left.length x.lc, .slice x.r p.right.length x.rc, .slice x.lk p.lkeys.length x.lkc, .slice x.rk p.rkeys.length x.rkc, .bool p.grouped, .slice x.g p.group.length x.gc, .slice x.a p.aggs.length x.ac] 25)) w1.heap.size p x) := fun w1 => boxP_new ..
 obtain ⟨pe, hpe⟩ : ∃ z, pl.planErr p = z := ⟨_, rfl⟩
 rw [hpe] at KC HER
 have HPE : Hid (pl.planErr p = pe) := hpe
 unfold pl.planV at KP KC KS KL ⊢
 clear hPA hln hw hp hv hn hq hqw hql hql2 hpe
 go_enter Tryz.func8, Tryz.ntmps8
 go_wp2_with fail
 generalize hV : (World.alloc w _) = V
 have hb0 : Below w.heap.size w V := by rw [← hV]; exact bR.alloc nR _
 have HB : Hid (boxP V w.heap.size p x) := by
  subst hV
  exact HBXP.out w
 clear hV HBXP
 refine (KP.out _ hb0).mono ?_
 rintro e w1 ⟨⟨y0, t0, nv0, rfl, hj⟩, hb1⟩
 have hbw : Below w.heap.size w w1 := hb0.trans (hb1.mono hb0.size)
 replace HB : Hid (boxP w1 w.heap.size p x) := boxP_later HB.out hb1
 have HJ : Hid (joinAt w1 S y0) := hj
 clear KP hj hb0
 rw [joinV_is]
 go_upto_region 3 with fail
 generalize hV : (World.alloc w1 _) = w2
 have hb2 : Below w1.heap.size w1 w2 := by rw [← hV]; exact bR.alloc nR _
 have HC0 : Hid (PCo S y0 w1 w2 w1.heap.size w1.heap.size S y0) := by
  subst hV
  have h1 := noJ_newJ w1 S y0
  have h2 : tyAt (w1.alloc (.cells #[.int .i64 S.L.lim, .slice y0.l.m.1.1 y0.l.m.1.2.1 y0.l.m.1.2.2, .slice y0.l.ra y0.l.rs.length y0.l.rc, .int .i64 S.R.lim, .slice y0.r.m.1.1 y0.r.m.1.2.1 y0.r.m.1.2.2, .slice y0.r.ra y0.r.rs.length y0.r.rc, .int .i64 S.lm, .int .i64 S.rm, .int .i64 S.seq] 31)) w1.heap.size 31 := ⟨_, _, World.alloc_heap_new w1 _⟩
  exact ⟨boxJ_new .., h1, h2, h1, h2, hb2, .inl ⟨⟨rfl, rfl⟩, HJ.out⟩⟩
 have lw : w.heap.size < w1.heap.size := by have := boxP_lt HB.out; omega
 clear hV
 by_cases h0 : E = 0
 ·subst h0
  obtain ⟨hp0, hg0⟩ := HG.out (by trivial)
  have HGK : Hid (∀ k, goodJ p (endK p S k)) := endK_good hp0 hg0
  have KE1 : Hid (∀ y wr, Below w1.heap.size w1 wr → joinAt wr (endK p S 0) y → Calls Tryz.prog 16 #[.agg #[.int .i64 p.kind, .int .i64 p.mode, .int .i64 p.low, .int .i64 p.high, .int .i64 p.size, .int .i64 p.limit, .slice x.l p.left.length x.lc, .slice x.r p.right.length x.rc, .slice x.lk p.lkeys.length x.lkc, .slice x.rk p.rkeys.length x.rkc, .bool p.grouped, .slice x.g p.group.length x.gc, .slice x.a p.aggs.length x.ac], joinV (endK p S 0) y, .agg #[.int .i64 2, .int .i64 1, .int .i64 1099511627776, .slice none 0 0]] wr fun e w' => (∃ y' t, e = .returned (.tuple #[joinV (endK p S 1) y', t, .int .i64 0]) ∧ OB w' wr.heap.size y'.l (endK p S 1).L ∧ OB w' wr.heap.size y'.r (endK p S 1).R) ∧ Below wr.heap.size wr w') := fun y wr hb hj => KS.out _ y 1 _ wr (hbw.trans (hb.mono hbw.size)) hj (HGK.out 0) (endK_step hp0 hg0).1
  have KE2 : Hid (∀ y wr, Below w1.heap.size w1 wr → joinAt wr (endK p S 1) y → Calls Tryz.prog 16 #[.agg #[.int .i64 p.kind, .int .i64 p.mode, .int .i64 p.low, .int .i64 p.high, .int .i64 p.size, .int .i64 p.limit, .slice x.l p.left.length x.lc, .slice x.r p.right.length x.rc, .slice x.lk p.lkeys.length x.lkc, .slice x.rk p.rkeys.length x.rkc, .bool p.grouped, .slice x.g p.group.length x.gc, .slice x.a p.aggs.length x.ac], joinV (endK p S 1) y, .agg #[.int .i64 2, .int .i64 2, .int .i64 1099511627776, .slice none 0 0]] wr fun e w' => (∃ y' t, e = .returned (.tuple #[joinV (endK p S 2) y', t, .int .i64 0]) ∧ OB w' wr.heap.size y'.l (endK p S 2).L ∧ OB w' wr.heap.size y'.r (endK p S 2).R) ∧ Below wr.heap.size wr w') := fun y wr hb hj => KS.out _ y 2 _ wr (hbw.trans (hb.mono hbw.size)) hj (HGK.out 1) (endK_step hp0 hg0).2
  have HEN : Hid (entsB (endK p S 2).L = [] ∧ (p.kind ≠ 3 → entsB (endK p S 2).R = []) ∧ (∀ l : List Ent, l.Perm (entsB (endK p S 2).R) → ∀ i, i + 1 < l.length → (l.getD (i + 1) default).key ≠ (l.getD i default).key) ∧ (stepJ p (endK p S 2) ⟨1, 1, tt, q⟩).1 ≠ 0) := ⟨(endJ_none hp0 hg0).1, (endJ_none hp0 hg0).2, fun l hl i hi => endJ_once hp0 hg0 hl i hi, endJ_late hp0 hg0 tt q⟩
  have HS0 : Hid (endK p S 0 = S) := rfl
  have KAL : Hid (∀ y wr, joinAt wr (endK p S 2) y → Calls Tryz.prog 26 #[.agg #[.int .i64 (endK p S 2).L.lim, .slice y.l.m.1.1 y.l.m.1.2.1 y.l.m.1.2.2, .slice y.l.ra y.l.rs.length y.l.rc]] wr fun e w' => (∃ ad cap, e = .returned (.tuple #[.slice ad 0 cap, .int .i64 0])) ∧ Below wr.heap.size wr w') := fun y wr hj => by
   refine (all_law (endK p S 2).L y.l wr hj.l (HGK.out 2).ok.L (fun z hz => (HGK.out 2).wf z (List.mem_append.2 (.inl hz)))).mono ?_
   rintro e w' ⟨⟨ad, cap, l', rfl, hpm, _, _⟩, hb⟩
   rw [HEN.out.1] at hpm
   rw [hpm.eq_nil]
   exact ⟨⟨ad, cap, rfl⟩, hb⟩
  have KAR : Hid (∀ y wr, joinAt wr (endK p S 2) y → Calls Tryz.prog 26 #[.agg #[.int .i64 (endK p S 2).R.lim, .slice y.r.m.1.1 y.r.m.1.2.1 y.r.m.1.2.2, .slice y.r.ra y.r.rs.length y.r.rc]] wr fun e w' => (∃ ad cap l', e = .returned (.tuple #[.slice ad (List.length l') cap, .int .i64 0]) ∧ l'.Perm (entsB (endK p S 2).R) ∧ entsAt w' ad l') ∧ Below wr.heap.size wr w') := fun y wr hj => by
   refine (all_law (endK p S 2).R y.r wr hj.r (HGK.out 2).ok.R (fun z hz => (HGK.out 2).wf z (List.mem_append.2 (.inr hz)))).mono ?_
   rintro e w' ⟨⟨ad, cap, l', rfl, hpm, _, he⟩, hb⟩
   exact ⟨⟨ad, cap, l', rfl, hpm, he⟩, hb⟩
  obtain ⟨SK, hSK⟩ : ∃ z, endK p S = z := ⟨_, rfl⟩
  rw [hSK] at HGK KE1 KE2 HEN HS0 KAL KAR
  have HC1 : Hid (PCo S y0 w1 w2 w1.heap.size w1.heap.size (SK 0) y0) := by rw [HS0.out]; exact HC0.out
  clear hSK hp0 hg0 KS HG HER HS0 HC0
  go_loopw [12, 13] (fun e sd wr => ∃ (k : Nat) (y : JX), k ≤ 2 ∧ sd = .int .i64 ((k : Int) + 1) ∧ e = .int .i64 0 ∧ PCo S y0 w1 wr w1.heap.size w1.heap.size (SK k) y) (fun _ sd _ => 3 - (intOf sd).toNat)
  case atStart => exact ⟨0, y0, by omega, rfl, rfl, HC1.out⟩
  case round =>
   obtain ⟨k, y, hk2, rfl, rfl, hco⟩ := hrel
   have HCO : Hid (PCo S y0 w1 wr w1.heap.size w1.heap.size (SK k) y) := hco
   have hbx : Below w1.heap.size w1 wr := hco.j.1
   have hbxw : Below w.heap.size w wr := hbw.trans (hbx.mono hbw.size)
   obtain ⟨v0, v1, v2, v3, v4, v5, v6, v7, v8, v9, v10, v11, v12⟩ := boxP_later HB.out hbx
   clear hco
   match k, hk2 with
   | 0, _ =>
    obtain ⟨u0, u1, u2, u3, u4, u5, u6, u7, u8⟩ := HCO.out.box
    go_wp2_with fail
    refine (KE1.out y wr hbx (HCO.out.j.at)).mono ?_
    rintro e w3 ⟨⟨y', t, rfl, hol, hor⟩, hb3⟩
    clear u0 u1 u2 u3 u4 u5 u6 u7 u8
    obtain ⟨NS, hNS⟩ : ∃ z, SK 1 = z := ⟨_, rfl⟩
    rw [hNS] at hol hor ⊢
    have HC2 : Hid (PCo S y0 w1 (World.setCells w3 w1.heap.size 0 [.int .i64 NS.L.lim, .slice y'.l.m.1.1 y'.l.m.1.2.1 y'.l.m.1.2.2, .slice y'.l.ra y'.l.rs.length y'.l.rc, .int .i64 NS.R.lim, .slice y'.r.m.1.1 y'.r.m.1.2.1 y'.r.m.1.2.2, .slice y'.r.ra y'.r.rs.length y'.r.rc, .int .i64 NS.lm, .int .i64 NS.rm, .int .i64 NS.seq]) w1.heap.size w1.heap.size NS y') := (HCO.out.below hb3).put nR (OB_mono hol hbx.size) (OB_mono hor hbx.size)
    have HNB : Hid (noJ w3 w1.heap.size) := (HCO.out.below hb3).nb
    clear hol hor
    rw [joinV_is]
    go_upto_region 4 with ((with_reducible refine wpList_store_mid ?_ 31 (.tmp 9) (.tmp 44) ?_ w1.heap.size 0 #[.int .i64 NS.L.lim, .slice y'.l.m.1.1 y'.l.m.1.2.1 y'.l.m.1.2.2, .slice y'.l.ra y'.l.rs.length y'.l.rc, .int .i64 NS.R.lim, .slice y'.r.m.1.1 y'.r.m.1.2.1 y'.r.m.1.2.2, .slice y'.r.ra y'.r.rs.length y'.r.rc, .int .i64 NS.lm, .int .i64 NS.rm, .int .i64 NS.seq] ?_ ?_ ?_ ?_ ?_ ?_); exact rfl; exact rfl; exact rfl; exact rfl; exact HNB.out; exact infoJ; exact (by simp [Value.oneCell']))
    generalize (World.setCells w3 w1.heap.size 0 [.int .i64 NS.L.lim, .slice y'.l.m.1.1 y'.l.m.1.2.1 y'.l.m.1.2.2, .slice y'.l.ra y'.l.rs.length y'.l.rc, .int .i64 NS.R.lim, .slice y'.r.m.1.1 y'.r.m.1.2.1 y'.r.m.1.2.2, .slice y'.r.ra y'.r.rs.length y'.r.rc, .int .i64 NS.lm, .int .i64 NS.rm, .int .i64 NS.seq]) = W' at HC2 ⊢
    rw [← hNS] at HC2
    clear hNS
    go_wp2
    go_roundw
    case rel => exact ⟨1, y', by omega, by go_num, rfl, HC2.out⟩
    case measure => simp [intOf]
   | 1, _ =>
    obtain ⟨u0, u1, u2, u3, u4, u5, u6, u7, u8⟩ := HCO.out.box
    go_wp2_with fail
    refine (KE2.out y wr hbx (HCO.out.j.at)).mono ?_
    rintro e w3 ⟨⟨y', t, rfl, hol, hor⟩, hb3⟩
    clear u0 u1 u2 u3 u4 u5 u6 u7 u8
    obtain ⟨NS, hNS⟩ : ∃ z, SK 2 = z := ⟨_, rfl⟩
    rw [hNS] at hol hor ⊢
    have HC2 : Hid (PCo S y0 w1 (World.setCells w3 w1.heap.size 0 [.int .i64 NS.L.lim, .slice y'.l.m.1.1 y'.l.m.1.2.1 y'.l.m.1.2.2, .slice y'.l.ra y'.l.rs.length y'.l.rc, .int .i64 NS.R.lim, .slice y'.r.m.1.1 y'.r.m.1.2.1 y'.r.m.1.2.2, .slice y'.r.ra y'.r.rs.length y'.r.rc, .int .i64 NS.lm, .int .i64 NS.rm, .int .i64 NS.seq]) w1.heap.size w1.heap.size NS y') := (HCO.out.below hb3).put nR (OB_mono hol hbx.size) (OB_mono hor hbx.size)
    have HNB : Hid (noJ w3 w1.heap.size) := (HCO.out.below hb3).nb
    clear hol hor
    rw [joinV_is]
    go_upto_region 4 with ((with_reducible refine wpList_store_mid ?_ 31 (.tmp 9) (.tmp 44) ?_ w1.heap.size 0 #[.int .i64 NS.L.lim, .slice y'.l.m.1.1 y'.l.m.1.2.1 y'.l.m.1.2.2, .slice y'.l.ra y'.l.rs.length y'.l.rc, .int .i64 NS.R.lim, .slice y'.r.m.1.1 y'.r.m.1.2.1 y'.r.m.1.2.2, .slice y'.r.ra y'.r.rs.length y'.r.rc, .int .i64 NS.lm, .int .i64 NS.rm, .int .i64 NS.seq] ?_ ?_ ?_ ?_ ?_ ?_); exact rfl; exact rfl; exact rfl; exact rfl; exact HNB.out; exact infoJ; exact (by simp [Value.oneCell']))
    generalize (World.setCells w3 w1.heap.size 0 [.int .i64 NS.L.lim, .slice y'.l.m.1.1 y'.l.m.1.2.1 y'.l.m.1.2.2, .slice y'.l.ra y'.l.rs.length y'.l.rc, .int .i64 NS.R.lim, .slice y'.r.m.1.1 y'.r.m.1.2.1 y'.r.m.1.2.2, .slice y'.r.ra y'.r.rs.length y'.r.rc, .int .i64 NS.lm, .int .i64 NS.rm, .int .i64 NS.seq]) = W' at HC2 ⊢
    rw [← hNS] at HC2
    clear hNS
    go_wp2
    go_roundw
    case rel => exact ⟨2, y', by omega, by go_num, rfl, HC2.out⟩
    case measure => simp [intOf]
   | 2, _ =>
    obtain ⟨u0, u1, u2, u3, u4, u5, u6, u7, u8⟩ := HCO.out.box
    go_wp2_with fail
    refine (KAL.out y wr HCO.out.j.at).mono ?_
    rintro e w4 ⟨⟨ad4, cap4, rfl⟩, hb4⟩
    have HJ4 : Hid (joinAt w4 (SK 2) y) := HCO.out.j.at.below hb4
    have HBJ4 : Hid (boxJ w4 w1.heap.size (SK 2) y) := boxJ_later HCO.out.box hb4
    have bw4 : Below w.heap.size w w4 := hbxw.trans (hb4.mono hbxw.size)
    have b14 : Below w1.heap.size w1 w4 := hbx.trans (hb4.mono hbx.size)
    clear KAL HCO hb4 hbxw u0 u1 u2 u3 u4 u5 u6 u7 u8 v0 v1 v2 v3 v4 v5 v6 v7 v8 v9 v10 v11 v12
    obtain ⟨u0, u1, u2, u3, u4, u5, u6, u7, u8⟩ := HBJ4.out
    go_wp2_with fail
    refine (KAR.out y w4 HJ4.out).mono ?_
    rintro e w5 ⟨⟨ad5, cap5, l5, rfl, hp5, he5⟩, hb5⟩
    have HB5 : Hid (boxP w5 w.heap.size p x) := boxP_later HB.out (b14.trans (hb5.mono b14.size))
    have HBJ5 : Hid (boxJ w5 w1.heap.size (SK 2) y) := boxJ_later HBJ4.out hb5
    have HJ5 : Hid (joinAt w5 (SK 2) y) := HJ4.out.below hb5
    have bw5 : Below w.heap.size w w5 := bw4.trans (hb5.mono bw4.size)
    have HE5 : Hid (entsAt w5 ad5 l5) := he5
    have HL5 : Hid (p.kind ≠ 3 → l5.length = 0) := fun h => by
     have := hp5.length_eq
     rw [HEN.out.2.1 h] at this
     exact this
    have hsm : l5.length ≤ 4096 := by
     rw [hp5.length_eq]
     exact (HGK.out 2).ok.R.all
    have HKEY : Hid (∀ i, i + 1 < l5.length → (l5.getD (i + 1) default).key ≠ (l5.getD i default).key) := HEN.out.2.2.1 l5 hp5
    have KLL : Hid (∀ w6, Below w5.heap.size w5 w6 → Calls Tryz.prog 16 #[.agg #[.int .i64 p.kind, .int .i64 p.mode, .int .i64 p.low, .int .i64 p.high, .int .i64 p.size, .int .i64 p.limit, .slice x.l p.left.length x.lc, .slice x.r p.right.length x.rc, .slice x.lk p.lkeys.length x.lkc, .slice x.rk p.rkeys.length x.rkc, .bool p.grouped, .slice x.g p.group.length x.gc, .slice x.a p.aggs.length x.ac], joinV (SK 2) y, .agg #[.int .i64 1, .int .i64 1, .int .i64 tt, .slice qa ql qc]] w6 fun e w' => (∃ s' y' t z, e = .returned (.tuple #[joinV s' y', t, .int .i64 z]) ∧ z ≠ 0) ∧ Below w6.heap.size w6 w') := fun w6 hb => KL.out _ y w6 (bw5.trans (hb.mono bw5.size)) (HJ5.out.below hb) (HGK.out 2) HEN.out.2.2.2
    obtain ⟨n, hn5⟩ : ∃ z, l5.length = z := ⟨_, rfl⟩
    rw [hn5] at hsm HKEY HL5 ⊢
    have HN5 : Hid (l5.length = n) := hn5
    have vk := HB5.out.1
    clear hp5 he5 hn5 KAR KL hb5 HJ4 HEN HBJ4 u0 u1 u2 u3 u4 u5 u6 u7 u8
    obtain ⟨pk, hpk⟩ : ∃ z, p.kind = z := ⟨_, rfl⟩
    rw [hpk] at vk HL5
    rw [joinV_is] at KLL
    clear hpk
    have hcases : (pk = 3) ∨ ((pk != 3) = true ∧ n = 0) := by
     by_cases h : pk = 3
     ·exact .inl h
     ·exact .inr ⟨by simpa using h, HL5.out h⟩
    clear HL5
    rcases hcases with e | ⟨e, e2⟩
    ·subst e
     go_upto_region 13 with fail
     go_loopw [18] (fun i wr => ∃ j : Nat, (j = 0 ∨ j < n) ∧ i = .int .i64 ((j : Int) + 1) ∧ Below w5.heap.size w5 wr) (fun i _ => n + 1 - (intOf i).toNat)
     case atStart => exact ⟨0, .inl rfl, rfl, bR⟩
     case round =>
      obtain ⟨j, hj, rfl, hn6⟩ := hrel
      by_cases hlt : j + 1 < n
      ·obtain ⟨b, o, ra, rc, e, x1, _⟩ := HE5.out (j + 1) (by rw [HN5.out]; exact hlt)
       subst e
       obtain ⟨b', o', ra', rc', e', x1', _⟩ := HE5.out j (by rw [HN5.out]; omega)
       cases e'
       have hkey := HKEY.out j hlt
       obtain ⟨k2, hk2⟩ : ∃ z, (l5.getD (j + 1) default).key = z := ⟨_, rfl⟩
       obtain ⟨k1, hk1⟩ : ∃ z, (l5.getD j default).key = z := ⟨_, rfl⟩
       rw [hk2] at x1 hkey
       rw [hk1] at x1' hkey
       have t2 : (k2.toList == k1.toList) = false := by
        have := bytes_beq k2 k1
        rw [beq_eq_false_iff_ne]
        intro e
        rw [e] at this
        exact hkey (by simpa using this.symm)
       have f2 := cLz hn6 x1
       have f1 := cLz hn6 x1'
       have h4' : (j : Int) + 1 < (n : Int) := by omega
       have h5' : (0 : Int) ≤ (j : Int) + 1 := by omega
       have h6' : (0 : Int) ≤ (j : Int) := by omega
       have h7' : (j : Int) < (n : Int) := by omega
       have hwj1 : IntKind.i64.wrap ((j : Int) + 1 - 1) = (j : Int) := by rw [ch.wrap_is]; omega
       have hwj2 : IntKind.i64.wrap (j : Int) = (j : Int) := by rw [ch.wrap_is]; omega
       have hwj3 : IntKind.i64.wrap ((j : Int) + 1 + 1) = (j : Int) + 1 + 1 := by rw [ch.wrap_is]; omega
       clear x1 x1' hk1 hk2 hkey
       go_upto_region 15 with fail
       refine gr.beginH (S := fun w' => w'.cell? ⟨b, o + (j + 1) * 5, none⟩ = some (.string k2) ∧ w'.cell? ⟨b, o + j * 5, none⟩ = some (.string k1)) 12 rfl hmx ⟨cLz bR.drew f2, cLz bR.drew f1⟩ ?_
       intro hHz
       refine tkz 0 99 hHz ?_; refine tkz 1 100 hHz ?_; refine tkz 2 101 hHz ?_; refine tkz 3 102 hHz ?_; refine tkz 4 103 hHz ?_; refine tkz 5 104 hHz ?_; refine tkz 6 105 hHz ?_; refine tkz 7 106 hHz ?_; refine tkz 8 107 hHz ?_; refine tkz 9 108 hHz ?_; refine tkz 10 109 hHz ?_; refine tkz 11 110 hHz ?_
       refine wpAnyH_done (by kernel_rfl) ?_ _
       go_wp2
       go_roundw
       case rel => exact ⟨j + 1, .inr hlt, by go_num, hn6.drew⟩
       case measure => simp [intOf]; omega
      ·have h4' : ¬ (j : Int) + 1 < (n : Int) := by omega
       obtain ⟨v0, v1, v2, v3, v4, v5, v6, v7, v8, v9, v10, v11, v12⟩ := boxP_later HB5.out hn6
       obtain ⟨u0, u1, u2, u3, u4, u5, u6, u7, u8⟩ := boxJ_later HBJ5.out hn6
       have bw6 : Below w.heap.size w wr := bw5.trans (hn6.mono bw5.size)
       go_wp2_with fail
       refine (KLL.out _ hn6).mono ?_
       rintro e w7 ⟨⟨s', y', t, z, rfl, hz⟩, hb7⟩
       have bw7 : Below w.heap.size w w7 := bw6.trans (hb7.mono bw6.size)
       have hz' : (z != 0) = true := by simpa using hz
       clear v0 v1 v2 v3 v4 v5 v6 v7 v8 v9 v10 v11 v12 u0 u1 u2 u3 u4 u5 u6 u7 u8 hz
       rw [joinV_is]
       go_upto_region 18 with fail
       generalize hV : (World.alloc w7 _) = w8
       have bw8 : Below w.heap.size w w8 := by rw [← hV]; exact bw7.alloc bw7.size _
       clear hV
       go_wp2_with fail
       refine (begun_any _).mono ?_
       rintro e w9 ⟨rfl, hb9⟩
       go_wp2
       go_ret
       exact ⟨rfl, bw8.trans (hb9.mono bw8.size)⟩
    ·have e3 : ((n : Int) != 0) = false := by rw [e2]; rfl
     clear e2
     go_upto_region 13 with fail
     go_loopw [18] (fun i wr => ∃ j : Nat, (j = 0 ∨ j < n) ∧ i = .int .i64 ((j : Int) + 1) ∧ Below w5.heap.size w5 wr) (fun i _ => n + 1 - (intOf i).toNat)
     case atStart => exact ⟨0, .inl rfl, rfl, bR⟩
     case round =>
      obtain ⟨j, hj, rfl, hn6⟩ := hrel
      by_cases hlt : j + 1 < n
      ·obtain ⟨b, o, ra, rc, e, x1, _⟩ := HE5.out (j + 1) (by rw [HN5.out]; exact hlt)
       subst e
       obtain ⟨b', o', ra', rc', e', x1', _⟩ := HE5.out j (by rw [HN5.out]; omega)
       cases e'
       have hkey := HKEY.out j hlt
       obtain ⟨k2, hk2⟩ : ∃ z, (l5.getD (j + 1) default).key = z := ⟨_, rfl⟩
       obtain ⟨k1, hk1⟩ : ∃ z, (l5.getD j default).key = z := ⟨_, rfl⟩
       rw [hk2] at x1 hkey
       rw [hk1] at x1' hkey
       have t2 : (k2.toList == k1.toList) = false := by
        have := bytes_beq k2 k1
        rw [beq_eq_false_iff_ne]
        intro e
        rw [e] at this
        exact hkey (by simpa using this.symm)
       have f2 := cLz hn6 x1
       have f1 := cLz hn6 x1'
       have h4' : (j : Int) + 1 < (n : Int) := by omega
       have h5' : (0 : Int) ≤ (j : Int) + 1 := by omega
       have h6' : (0 : Int) ≤ (j : Int) := by omega
       have h7' : (j : Int) < (n : Int) := by omega
       have hwj1 : IntKind.i64.wrap ((j : Int) + 1 - 1) = (j : Int) := by rw [ch.wrap_is]; omega
       have hwj2 : IntKind.i64.wrap (j : Int) = (j : Int) := by rw [ch.wrap_is]; omega
       have hwj3 : IntKind.i64.wrap ((j : Int) + 1 + 1) = (j : Int) + 1 + 1 := by rw [ch.wrap_is]; omega
       clear x1 x1' hk1 hk2 hkey
       go_upto_region 15 with fail
       refine gr.beginH (S := fun w' => w'.cell? ⟨b, o + (j + 1) * 5, none⟩ = some (.string k2) ∧ w'.cell? ⟨b, o + j * 5, none⟩ = some (.string k1)) 12 rfl hmx ⟨cLz bR.drew f2, cLz bR.drew f1⟩ ?_
       intro hHz
       refine tkz 0 99 hHz ?_; refine tkz 1 100 hHz ?_; refine tkz 2 101 hHz ?_; refine tkz 3 102 hHz ?_; refine tkz 4 103 hHz ?_; refine tkz 5 104 hHz ?_; refine tkz 6 105 hHz ?_; refine tkz 7 106 hHz ?_; refine tkz 8 107 hHz ?_; refine tkz 9 108 hHz ?_; refine tkz 10 109 hHz ?_; refine tkz 11 110 hHz ?_
       refine wpAnyH_done (by kernel_rfl) ?_ _
       go_wp2
       go_roundw
       case rel => exact ⟨j + 1, .inr hlt, by go_num, hn6.drew⟩
       case measure => simp [intOf]; omega
      ·have h4' : ¬ (j : Int) + 1 < (n : Int) := by omega
       obtain ⟨v0, v1, v2, v3, v4, v5, v6, v7, v8, v9, v10, v11, v12⟩ := boxP_later HB5.out hn6
       obtain ⟨u0, u1, u2, u3, u4, u5, u6, u7, u8⟩ := boxJ_later HBJ5.out hn6
       have bw6 : Below w.heap.size w wr := bw5.trans (hn6.mono bw5.size)
       go_wp2_with fail
       refine (KLL.out _ hn6).mono ?_
       rintro e w7 ⟨⟨s', y', t, z, rfl, hz⟩, hb7⟩
       have bw7 : Below w.heap.size w w7 := bw6.trans (hb7.mono bw6.size)
       have hz' : (z != 0) = true := by simpa using hz
       clear v0 v1 v2 v3 v4 v5 v6 v7 v8 v9 v10 v11 v12 u0 u1 u2 u3 u4 u5 u6 u7 u8 hz
       rw [joinV_is]
       go_upto_region 18 with fail
       generalize hV : (World.alloc w7 _) = w8
       have bw8 : Below w.heap.size w w8 := by rw [← hV]; exact bw7.alloc bw7.size _
       clear hV
       go_wp2_with fail
       refine (begun_any _).mono ?_
       rintro e w9 ⟨rfl, hb9⟩
       go_wp2
       go_ret
       exact ⟨rfl, bw8.trans (hb9.mono bw8.size)⟩
 ·have hne : (E != 0) = true := by simpa using h0
  have hnz : (E == 0) = false := by simpa using h0
  have hEE := HER.out h0
  go_loopw [12, 13] (fun e sd wr => sd = .int .i64 1 ∧ e = .int .i64 E ∧ wr = w2) (fun _ _ _ => 0)
  case atStart => exact ⟨rfl, rfl, rfl⟩
  case round =>
   obtain ⟨rfl, rfl, rfl⟩ := hrel
   rcases hEE with e2 | e2
   ·subst e2
    go_wp2_with fail
    refine (begun_any _).mono ?_
    rintro e w5 ⟨rfl, hb5⟩
    go_wp2
    go_ret
    exact ⟨rfl, (hbw.trans (hb2.mono hbw.size)).trans (hb5.mono (Nat.le_trans hbw.size hb2.size))⟩
   ·subst e2
    by_cases h22 : E = 2
    ·subst h22
     go_wp2_with fail
     refine (begun_any _).mono ?_
     rintro e w5 ⟨rfl, hb5⟩
     go_wp2
     go_ret
     exact ⟨rfl, (hbw.trans (hb2.mono hbw.size)).trans (hb5.mono (Nat.le_trans hbw.size hb2.size))⟩
    ·have h23 : (E == 2) = false := by simpa using h22
     go_wp2_with fail
     refine (begun_any _).mono ?_
     rintro e w5 ⟨rfl, hb5⟩
     have bw5 : Below w.heap.size w w5 := (hbw.trans (hb2.mono hbw.size)).trans (hb5.mono (Nat.le_trans hbw.size hb2.size))
     have hbq : Below w1.heap.size w1 w5 := hb2.trans (hb5.mono hb2.size)
     obtain ⟨v0, v1, v2, v3, v4, v5, v6, v7, v8, v9, v10, v11, v12⟩ := boxP_later HB.out hbq
     go_wp2_with fail
     refine (KC.out _ bw5).mono ?_
     rintro e w6 ⟨rfl, hb6⟩
     go_wp2
     go_ret
     exact ⟨by simp, bw5.trans (hb6.mono bw5.size)⟩
end Go.Proofs.YtdohnkkbkfhphaaGreat.jn
