/- MeetIn: the document's own words of Meet. -/
import Derived.Test.YtnfknkihiapgiaaBufMet4
import Derived.Test.YtnfknkihiapgiaaFrE
namespace Go.Proofs.Ytnfknkihiapgiaa.bf
open Go.ChangeShapes Go.WideShapes Go.ChangeAt Go.RowKit
open vl
set_option linter.unusedVariables false
set_option linter.unusedSimpArgs false
attribute [local go_sem] Oper.semAt_some
set_option maxRecDepth 100000 in
set_option maxHeartbeats 16000000 in
theorem meetIn_ok (b : Buf) (x : BX) (p : Plc) (w : World) (h : bufAt w b x) (ok : okB b) :
    Calls Try.prog 18 #[bufV b x, .string p.1, .int .i64 p.2.1, .int .i64 p.2.2] w fun r w' => (∃ x', r = .returned (bufV (meetB p b) x') ∧ OB w' w.heap.size x' (meetB p b)) ∧ Below w.heap.size w w' := by
  have KO : Hid (∀ w1, Below w.heap.size w w1 → Calls Try.prog 43 #[bufV b x, .func (.func 44) #[] #[]] w1 fun e w' => (∃ x', e = .returned (bufV b x') ∧ OB w' w1.heap.size x' b) ∧ Below w1.heap.size w1 w') := fun w1 hb => own_all b x w1 (bufAt_below h hb) ok
  have hsm := ok.small
  have HSL : Hid (∀ i, i < (partsB b).length → ((partsB b).getD i []).length ≤ 100000) := fun i hi => by
    have := hsm.1 ((partsB b).getD i []) (by rw [List.getD_eq_getElem?_getD, List.getElem?_eq_getElem hi]; exact List.getElem_mem hi)
    omega
  have HNR : Hid (b.runs.length ≤ 100000) := hsm.2.1
  clear h ok hsm
  obtain ⟨lim, hlim⟩ : ∃ z, b.lim = z := ⟨_, rfl⟩
  have hbv : ∀ ra rc m1 m2 m3 ml rs, bufV b ⟨ra, rc, ((m1, m2, m3), ml), rs⟩ = .agg #[.int .i64 lim, .slice m1 m2 m3, .slice ra rs.length rc] := fun _ _ _ _ _ _ _ => by rw [← hlim]; rfl
  have HBV : Hid (∀ ra rc m1 m2 m3 ml rs, bufV b ⟨ra, rc, ((m1, m2, m3), ml), rs⟩ = .agg #[.int .i64 lim, .slice m1 m2 m3, .slice ra rs.length rc]) := hbv
  obtain ⟨ra, rc, ⟨⟨m1, m2, m3⟩, ml⟩, rs⟩ := x
  rw [hbv] at KO ⊢
  obtain ⟨pk, pt, ps⟩ := p
  dsimp only
  obtain ⟨n, hn⟩ : ∃ n, rs.length = n := ⟨_, rfl⟩
  rw [hn] at KO ⊢
  clear hn hbv hlim
  have hb0 : Below w.heap.size w ((w.alloc (.cells #[.int .i64 lim, .slice m1 m2 m3, .slice ra n rc] 25)).alloc (.cells #[.int .i64 0, .slice none 0 0, .slice none 0 0] 25)) := by
    repeat (first | exact Below.refl _ _ | (refine Below.alloc ?_ (by simp <;> omega) _))
  have NBV := nb_alloc (w.alloc (.cells #[.int .i64 lim, .slice m1 m2 m3, .slice ra n rc] 25))
  rw [World.size_alloc] at NBV
  have HNB : Hid (nbAt ((w.alloc (.cells #[.int .i64 lim, .slice m1 m2 m3, .slice ra n rc] 25)).alloc (.cells #[.int .i64 0, .slice none 0 0, .slice none 0 0] 25)) (w.heap.size + 1)) := NBV
  clear NBV
  go_enter Try.func18, Try.ntmps18
  go_wp2_with (go_at_call 43; refine (KO.out _ hb0).mono ?_; rintro e w2 ⟨⟨x', rfl, hob⟩, hb2⟩; have HOB : Hid (OB w2 (w.heap.size + 1 + 1) x' b) := (by have := hob; simp only [World.size_alloc] at this; exact this); have HX0 : Hid (x' = x') := rfl; obtain ⟨⟨ra', rc', ⟨⟨a1, a2, a3⟩, ml'⟩, rs'⟩, hx'⟩ : ∃ z, x' = z := ⟨_, rfl⟩; subst hx'; rw [HBV.out]; obtain ⟨N, hN⟩ : ∃ z, rs'.length = z := ⟨_, rfl⟩; have HN : Hid (rs'.length = N) := hN; rw [hN]; clear hN hob; have hw2 : Below w.heap.size w w2 := hb0.trans (hb2.mono hb0.size); have HNB2 : Hid (nbAt w2 (w.heap.size + 1)) := nb_below hb2 HNB.out)
  have v0 : (w2.alloc (.cells #[.int .i64 lim, .slice a1 a2 a3, .slice ra' N rc'] 25)).cell? ⟨w2.heap.size, 0, none⟩ = some (.int .i64 lim) := by go_simp
  have v1 : (w2.alloc (.cells #[.int .i64 lim, .slice a1 a2 a3, .slice ra' N rc'] 25)).cell? ⟨w2.heap.size, 1, none⟩ = some (.slice a1 a2 a3) := by go_simp
  have v2 : (w2.alloc (.cells #[.int .i64 lim, .slice a1 a2 a3, .slice ra' N rc'] 25)).cell? ⟨w2.heap.size, 2, none⟩ = some (.slice ra' N rc') := by go_simp
  have V8 : Below w2.heap.size w2 (w2.alloc (.cells #[.int .i64 lim, .slice a1 a2 a3, .slice ra' N rc'] 25)) := (Below.refl _ _).alloc (Nat.le_refl _) _
  have T1 : tyAt (w2.alloc (.cells #[.int .i64 lim, .slice a1 a2 a3, .slice ra' N rc'] 25)) w2.heap.size 25 := ⟨_, _, World.alloc_heap_new w2 _⟩
  generalize (w2.alloc (.cells #[.int .i64 lim, .slice a1 a2 a3, .slice ra' N rc'] 25)) = V at *
  have HV8 : Hid (Below w.heap.size w V) := hw2.trans (V8.mono hw2.size)
  have HOV : Hid (OB V (w.heap.size + 1 + 1) ⟨ra', rc', ((a1, a2, a3), ml'), rs'⟩ b) := HOB.out.below V8
  have HNV : Hid (nbAt V (w.heap.size + 1)) := nb_below V8 HNB2.out
  have HNN : Hid (names notE V w2.heap.size) := names_notE T1 (by decide)
  obtain ⟨PS, hPS⟩ : ∃ z, partsB b = z := ⟨_, rfl⟩
  have HPS : Hid (partsB b = PS) := hPS
  have HPN : Hid (PS.length = N + 1) := by show _ = _; rw [← hPS, ← HN.out]; simp [partsB, HOV.out.rlen]
  have hNs : N ≤ 100000 := by have h1 := HNR.out; have h2 := HOV.out.rlen; rw [← h2] at h1; dsimp only at h1; rw [HN.out] at h1; exact h1
  rw [hPS] at HSL
  have HST0 : Hid (MSt w V V (w.heap.size + 1 + 1) ((((a1, a2, a3), ml') :: rs').map (·.1)) (.slice ra' rs'.length rc') rs'.length (rs'.map fun q => hdV q.1) (metLs (pk, pt, ps) PS 0)) := by
    show MSt _ _ _ _ _ _ _ _ _
    rw [← hPS]; exact MSt_start HOV.out HV8.out
  obtain ⟨HS, hHS⟩ : ∃ z : List Hdr, ((((a1, a2, a3), ml') :: rs').map (·.1)) = z := ⟨_, rfl⟩
  have HHS : Hid ((((a1, a2, a3), ml') :: rs').map (·.1) = HS) := hHS
  obtain ⟨HV, hHV⟩ : ∃ z : Value, .slice ra' rs'.length rc' = z := ⟨_, rfl⟩
  have HHV : Hid (.slice ra' rs'.length rc' = HV) := hHV
  obtain ⟨HX, hHX⟩ : ∃ z : List Value, (rs'.map fun q => hdV q.1) = z := ⟨_, rfl⟩
  have HHX : Hid ((rs'.map fun q => hdV q.1) = HX) := hHX
  have HLH : Hid (HS.length = N + 1) := by show _ = _; rw [← hHS, ← HN.out]; simp
  have HLL : Hid (PS.length = HS.length) := by show _ = _; rw [HPN.out, HLH.out]
  rw [hHS, hHV, hHX, HN.out] at HST0
  clear hPS hHS hHV hHX T1 V8 HNB2 HOB hb2 KO HNB hb0 HX0
  go_loopw [10, 11, 12] (fun ii _ _ wr => ∃ k : Nat, k ≤ N + 1 ∧ ii = .int .i64 ((k : Int) - 1) ∧ MSt w V wr (w.heap.size + 1 + 1) HS HV N HX (metLs (pk, pt, ps) PS k)) (fun ii _ _ _ => N + 1 - (intOf ii + 1).toNat)
  case atStart => exact ⟨0, Nat.zero_le _, rfl, HST0.out⟩
  case round =>
    obtain ⟨k, hk, rfl, hmk⟩ := hrel
    have HST : Hid (MSt w V wr (w.heap.size + 1 + 1) HS HV N HX (metLs (pk, pt, ps) PS k)) := hmk
    have c0 := hmk.ko.cell HNN.out v0
    have c1 := hmk.ko.cell HNN.out v1
    have c2 := hmk.ko.cell HNN.out v2
    by_cases hlt : k < N + 1
    · have HIH : Hid (k < HS.length) := by show _ < _; rw [HLH.out]; exact hlt
      have HIL : Hid (k < PS.length) := by show _ < _; rw [HPN.out]; exact hlt
      have hlen := hmk.hlen HIH.out HLL.out
      have hpb := HSL.out k HIL.out
      cases k with
      | zero =>
        have HZ : Hid (HS.getD 0 hd0 = (a1, a2, a3)) := by show _ = _; rw [← HHS.out]; rfl
        rw [HZ.out] at hlen
        dsimp only at hlen
        obtain ⟨pl, hpl⟩ : ∃ z, (PS.getD 0 []).length = z := ⟨_, rfl⟩
        have HPL : Hid ((PS.getD 0 []).length = pl) := hpl
        rw [hpl] at hlen hpb
        have hlen' := hlen.symm
        subst hlen'
        clear hlen
        obtain ⟨PI, hPI⟩ : ∃ z : Nat, 0 = z := ⟨_, rfl⟩
        rw [hPI] at HPL HZ HST HIH HIL
        have HPI : Hid (PI = 0) := hPI.symm
        have hsm : ((0 : Nat) : Int) - 1 = -1 := by omega
        have i6 : (-1 : Int) < (N : Int) := by omega
        clear hpl hmk hPI
        rw [hsm]
        clear hsm
        go_wp2
        go_loopw [12] (fun kk wq => ∃ j : Nat, kk = .int .i64 j ∧ j ≤ pl ∧ MSt w V wq (w.heap.size + 1 + 1) HS HV N HX (metD (pk, pt, ps) PS PI j)) (fun kk _ => pl - (intOf kk).toNat)
        case atStart => exact ⟨0, rfl, Nat.zero_le _, by rw [metD_zero HIL.out]; exact HST.out⟩
        case round =>
          obtain ⟨j, rfl, hj, hmj⟩ := hrel
          have HMJ : Hid (MSt w V wr (w.heap.size + 1 + 1) HS HV N HX (metD (pk, pt, ps) PS PI j)) := hmj
          have c0 := hmj.ko.cell HNN.out v0
          have c1 := hmj.ko.cell HNN.out v1
          have c2 := hmj.ko.cell HNN.out v2
          by_cases hjl : j < pl
          · have hj2 : j < (PS.getD PI []).length := by rw [HPL.out]; exact hjl
            obtain ⟨g, e, hg, x1, x2, x3, x4, x5, x6, hpl⟩ := hmj.read HIH.out HLL.out hj2
            rw [HZ.out, HPL.out] at hg
            injection hg with hg1 hg2
            injection hg2 with hg2 hg3
            have hg1' := hg1.symm
            subst hg1
            have KA : Hid (∀ w1, Calls Try.prog 50 #[e.val, .string pk, .int .i64 pt, .int .i64 ps] w1 fun r w' => r = .returned (.bool (decide ((e.key, e.time, e.seq) = (pk, pt, ps)))) ∧ Below w1.heap.size w1 w') := fun w1 => at_any e (pk, pt, ps) w1
            have HPUT : Hid (∀ (X : World) (v : Bool), MSt w V X (w.heap.size + 1 + 1) HS HV N HX (metD (pk, pt, ps) PS PI j) → X.cell? ⟨g, j * 5 + 4, none⟩ = some (.bool e.met) → v = (e.met || decide ((e.key, e.time, e.seq) = (pk, pt, ps))) → MSt w V (X.setCell ⟨g, j * 5 + 4, none⟩ (.bool v)) (w.heap.size + 1 + 1) HS HV N HX (metD (pk, pt, ps) PS PI (j + 1))) := fun X v h1 h2 h3 => h1.put (by omega) HIH.out HLL.out hj2 (by rw [HZ.out]) h2 (by rw [hpl]; exact h3)
            obtain ⟨⟨ek, et, es, ⟨r1, r2, r3⟩, em⟩, he⟩ : ∃ z, e = z := ⟨_, rfl⟩
            subst he
            unfold EM.val hdV at KA
            unfold hdV at x4
            dsimp only at KA HPUT x1 x2 x3 x4 x5 x6
            obtain ⟨D, hD⟩ : ∃ z, decide ((ek, et, es) = (pk, pt, ps)) = z := ⟨_, rfl⟩
            rw [hD] at KA HPUT
            have lg : g < wr.heap.size := World.block_lt_of_cell? _ _ x1
            have i1 : (0 : Int) ≤ (j : Int) := by omega
            have i2 : (j : Int) < (pl : Int) := by omega
            clear hD hpl hmj hg1' hg2 hg3 hj2
            cases em with
            | true =>
              go_wp2
              go_roundw
              case rel => exact ⟨j + 1, by go_num, by omega, HPUT.out wr true HMJ.out x5 rfl⟩
              case measure => simp [intOf] <;> omega
            | false =>
              go_wp2_with (go_at_call 50; refine (KA.out _).mono ?_; rintro e w3 ⟨rfl, hb3⟩; have y5 := cell_later hb3 x5; have y6 : w3.frozen? ⟨g, j * 5 + 4, none⟩ = false := (by rw [hb3.frozen (p := ⟨g, j * 5 + 4, none⟩) lg]; exact x6); have ly : g < w3.heap.size := World.block_lt_of_cell? _ _ y5)
              go_roundw
              case rel => exact ⟨j + 1, by go_num, by omega, HPUT.out w3 D (HMJ.out.below hb3) y5 (by simp)⟩
              case measure => simp [intOf] <;> omega
          · have hjn : ¬ ((j : Int) < (pl : Int)) := by omega
            have hje : j = pl := by omega
            have HMN : Hid (MSt w V wr (w.heap.size + 1 + 1) HS HV N HX (metLs (pk, pt, ps) PS (PI + 1))) := by
              show MSt _ _ _ _ _ _ _ _ _
              rw [← metD_end HIL.out, HPL.out, ← hje]; exact hmj
            clear hmj
            go_wp2
            go_roundw
            case rel => exact ⟨PI + 1, (by have := HPI.out; omega), (by have := HPI.out; first | go_num | (congr 1; omega)), HMN.out⟩
            case measure =>
              have := HPI.out
              simp [intOf] <;> omega
      | succ k =>
        obtain ⟨g2, hra, x9⟩ := MSt.head (x := ⟨ra', rc', ((a1, a2, a3), ml'), rs'⟩) (k := k) (L := metLs (pk, pt, ps) PS (k + 1)) (by dsimp only; rw [HHS.out, HHV.out, HHX.out, HN.out]; exact hmk) (by dsimp only; rw [HN.out]; omega)
        dsimp only at hra x9
        rw [HHS.out] at x9
        obtain ⟨⟨z1, z2, z3⟩, hz⟩ : ∃ z, HS.getD (k + 1) hd0 = z := ⟨_, rfl⟩
        have HZ : Hid (HS.getD (k + 1) hd0 = (z1, z2, z3)) := hz
        rw [hz] at x9 hlen
        unfold hdV at x9
        dsimp only at x9 hlen
        obtain ⟨pl, hpl⟩ : ∃ z, (PS.getD (k + 1) []).length = z := ⟨_, rfl⟩
        have HPL : Hid ((PS.getD (k + 1) []).length = pl) := hpl
        rw [hpl] at hlen hpb
        have hlen' := hlen.symm
        subst hlen'
        clear hlen
        obtain ⟨PI, hPI⟩ : ∃ z : Nat, k + 1 = z := ⟨_, rfl⟩
        rw [hPI] at HPL HZ HST HIH HIL
        have hPI' : PI = k + 1 := hPI.symm
        have HPI : Hid (PI = k + 1) := hPI'
        have hsm : ((k + 1 : Nat) : Int) - 1 = (k : Int) := by omega
        have i3 : (0 : Int) ≤ (k : Int) := by omega
        have i4 : (k : Int) < (N : Int) := by omega
        have i5 : ¬ ((k : Int) < 0) := by omega
        rw [hra] at v2 c2
        rw [Nat.zero_add] at x9
        have lg2 : g2 < wr.heap.size := World.block_lt_of_cell? _ _ x9
        clear hpl hmk hz hPI hPI'
        rw [hsm]
        clear hsm
        go_wp2
        go_loopw [12] (fun kk wq => ∃ j : Nat, kk = .int .i64 j ∧ j ≤ pl ∧ MSt w V wq (w.heap.size + 1 + 1) HS HV N HX (metD (pk, pt, ps) PS PI j)) (fun kk _ => pl - (intOf kk).toNat)
        case atStart => exact ⟨0, rfl, Nat.zero_le _, by rw [metD_zero HIL.out]; exact HST.out⟩
        case round =>
          obtain ⟨j, rfl, hj, hmj⟩ := hrel
          have HMJ : Hid (MSt w V wr (w.heap.size + 1 + 1) HS HV N HX (metD (pk, pt, ps) PS PI j)) := hmj
          have c0 := hmj.ko.cell HNN.out v0
          have c1 := hmj.ko.cell HNN.out v1
          have c2 := hmj.ko.cell HNN.out v2
          by_cases hjl : j < pl
          · have hj2 : j < (PS.getD PI []).length := by rw [HPL.out]; exact hjl
            obtain ⟨g, e, hg, x1, x2, x3, x4, x5, x6, hpl⟩ := hmj.read HIH.out HLL.out hj2
            rw [HZ.out, HPL.out] at hg
            injection hg with hg1 hg2
            injection hg2 with hg2 hg3
            have hg1' := hg1.symm
            subst hg1
            have KA : Hid (∀ w1, Calls Try.prog 50 #[e.val, .string pk, .int .i64 pt, .int .i64 ps] w1 fun r w' => r = .returned (.bool (decide ((e.key, e.time, e.seq) = (pk, pt, ps)))) ∧ Below w1.heap.size w1 w') := fun w1 => at_any e (pk, pt, ps) w1
            have HPUT : Hid (∀ (X : World) (v : Bool), MSt w V X (w.heap.size + 1 + 1) HS HV N HX (metD (pk, pt, ps) PS PI j) → X.cell? ⟨g, j * 5 + 4, none⟩ = some (.bool e.met) → v = (e.met || decide ((e.key, e.time, e.seq) = (pk, pt, ps))) → MSt w V (X.setCell ⟨g, j * 5 + 4, none⟩ (.bool v)) (w.heap.size + 1 + 1) HS HV N HX (metD (pk, pt, ps) PS PI (j + 1))) := fun X v h1 h2 h3 => h1.put (by omega) HIH.out HLL.out hj2 (by rw [HZ.out]) h2 (by rw [hpl]; exact h3)
            obtain ⟨⟨ek, et, es, ⟨r1, r2, r3⟩, em⟩, he⟩ : ∃ z, e = z := ⟨_, rfl⟩
            subst he
            unfold EM.val hdV at KA
            unfold hdV at x4
            dsimp only at KA HPUT x1 x2 x3 x4 x5 x6
            obtain ⟨D, hD⟩ : ∃ z, decide ((ek, et, es) = (pk, pt, ps)) = z := ⟨_, rfl⟩
            rw [hD] at KA HPUT
            have lg : g < wr.heap.size := World.block_lt_of_cell? _ _ x1
            have i1 : (0 : Int) ≤ (j : Int) := by omega
            have i2 : (j : Int) < (pl : Int) := by omega
            clear hD hpl hmj hg1' hg2 hg3 hj2
            cases em with
            | true =>
              go_wp2
              go_roundw
              case rel => exact ⟨j + 1, by go_num, by omega, HPUT.out wr true HMJ.out x5 rfl⟩
              case measure => simp [intOf] <;> omega
            | false =>
              go_wp2_with (go_at_call 50; refine (KA.out _).mono ?_; rintro e w3 ⟨rfl, hb3⟩; have y5 := cell_later hb3 x5; have y6 : w3.frozen? ⟨g, j * 5 + 4, none⟩ = false := (by rw [hb3.frozen (p := ⟨g, j * 5 + 4, none⟩) lg]; exact x6); have ly : g < w3.heap.size := World.block_lt_of_cell? _ _ y5)
              go_roundw
              case rel => exact ⟨j + 1, by go_num, by omega, HPUT.out w3 D (HMJ.out.below hb3) y5 (by simp)⟩
              case measure => simp [intOf] <;> omega
          · have hjn : ¬ ((j : Int) < (pl : Int)) := by omega
            have hje : j = pl := by omega
            have HMN : Hid (MSt w V wr (w.heap.size + 1 + 1) HS HV N HX (metLs (pk, pt, ps) PS (PI + 1))) := by
              show MSt _ _ _ _ _ _ _ _ _
              rw [← metD_end HIL.out, HPL.out, ← hje]; exact hmj
            clear hmj
            go_wp2
            go_roundw
            case rel => exact ⟨PI + 1, (by have := HPI.out; omega), (by have := HPI.out; first | go_num | (congr 1; omega)), HMN.out⟩
            case measure =>
              have := HPI.out
              simp [intOf] <;> omega
    · have hke : k = N + 1 := by omega
      subst hke
      have HNX := nb_keep HNV.out hmk.ko
      obtain ⟨n0, n1, n2, o0, o1, o2, n3⟩ := HNX
      have HNT : Hid (tyAt wr (w.heap.size + 1) 25) := n3
      have hblx := hmk.bl
      have hsm : ((N + 1 : Nat) : Int) - 1 = (N : Int) := by omega
      have hno : ¬ ((N : Int) < (N : Int)) := by omega
      rw [hsm]
      clear hsm hmk
      go_wp2
      have hsh := HST.out
      rw [← HPN.out, ← HN.out, ← HHS.out, ← HHV.out, ← HHX.out, ← HPS.out] at hsh
      obtain ⟨x'', e1, e2⟩ := MSt.shed2 (x := ⟨ra', rc', ((a1, a2, a3), ml'), rs'⟩) (Y := (((wr.setCell ⟨w.heap.size + 1, 0, none⟩ (.int .i64 lim)).setCell ⟨w.heap.size + 1, 1, none⟩ (.slice a1 a2 a3)).setCell ⟨w.heap.size + 1, 2, none⟩ (.slice ra' N rc'))) hsh (by simp [World.setCell]) (three_same HNT.out _ _ _)
      refine bodyPost_ret (v := .agg #[.int .i64 lim, .slice a1 a2 a3, .slice ra' N rc']) (by simp [results, Try.results18, go_sem, n0, n1, n2]) rfl ⟨⟨x'', ?_, OB_mono e2 (by omega)⟩, ((hblx.setCell (by dsimp only; omega) _).setCell (by dsimp only; omega) _).setCell (by dsimp only; omega) _⟩
      rw [e1, HBV.out, HN.out]
end Go.Proofs.Ytnfknkihiapgiaa.bf
