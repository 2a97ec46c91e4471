/- E5, what each mode has: the differences are Inserts alone; leftParts (the statement's own helper). -/
import Derived.Test.YtcpanmaahhiioaaGreatBatKeep
import Derived.Test.YtcpanmaahhiioaaGreatBatTurn3
import Derived.Test.YtcpanmaahhiioaaGreatChgDiffB
import Derived.Test.YtcpanmaahhiioaaGreatCapMake
import Derived.Test.YtcpanmaahhiioaaGreatMgBatI
import Derived.Test.YtcpanmaahhiioaaGreatMgValA
namespace Go.Proofs.YtcpanmaahhiioaaGreat.bt
open Go.ChangeShapes Go.WideShapes Go.ChangeAt Go.RowKit Go.Maps Go.WideMaps
open vl pl
set_option linter.unusedVariables false
set_option linter.unusedSimpArgs false
theorem inss_few (T : List (List Cel)) : ∀ (out : List ch.Cnt), ch.rising (ch.kvOf out) → (∀ c ∈ out, c.n ≤ (cntR T (encR c.r) : Int)) → (ch.inss out).length ≤ (T.filter fun x => out.any fun c => encR c.r == encR x).length
  | [], _, _ => Nat.zero_le _
  | c :: out, hr, hn => by
    have h1 := List.pairwise_cons.1 (show List.Pairwise _ ((encR c.r, c.n) :: ch.kvOf out) from hr)
    have ih := inss_few T out h1.2 (fun d hd => hn d (List.mem_cons_of_mem _ hd))
    have h3 := hn c (List.mem_cons_self ..)
    have e : ch.inss (c :: out) = List.replicate c.n.toNat ⟨1, c.r⟩ ++ ch.inss out := rfl
    rw [e, List.length_append, List.length_replicate]
    have e2 : (fun x => (c :: out).any fun d => encR d.r == encR x) = fun x => (encR c.r == encR x) || (out.any fun d => encR d.r == encR x) := by
      funext x; rw [List.any_cons]
    rw [e2, filter_or]
    · have h4 : cntR T (encR c.r) = (T.filter fun x => encR c.r == encR x).length := by
        unfold cntR
        congr 1
        apply List.filter_congr
        intro x _
        rw [Bool.eq_iff_iff]
        simp only [beq_iff_eq]
        exact ⟨fun h => h.symm, fun h => h.symm⟩
      omega
    · intro x _ h
      simp only [beq_iff_eq, List.any_eq_true] at h
      obtain ⟨h5, d, hd, h6⟩ := h
      have := h1.1 (encR d.r, d.n) (List.mem_map.2 ⟨d, hd, rfl⟩)
      rw [show ((encR c.r, c.n) : List UInt8 × Int).1 = encR c.r from rfl, show ((encR d.r, d.n) : List UInt8 × Int).1 = encR d.r from rfl, h5, h6, ch.before_irrefl] at this
      cases this
/-- what makes the join of Inner the join of a mode are Inserts -/
theorem diff_up {p : Pln} {L R : List Stm} (h : batchErr p L R = 0) (hL : wfStms L) (hR : wfStms R) {out : List ch.Cnt} (hr : ch.rising (ch.kvOf out)) (hg : ∀ k, ch.getK (ch.kvOf out) k = ch.getK (rowsK (told p L R)) k - ch.getK (rowsK (told (inMode p 1) L R)) k) :
    (ch.madeL out).length ≤ 4096 ∧ ∀ c ∈ ch.madeL out, c.k = 1 := by
  have b := batch_ok h
  have b' := batch_ok (mode_batch (.inl rfl) h : batchErr (inMode p 1) L R = 0)
  have hT : (told p L R).length ≤ 4096 := by have := told_len p L R b.many; omega
  have hS : (told (inMode p 1) L R).length ≤ 4096 := by have := told_len (inMode p 1) L R b.many; omega
  have hc : ∀ c ∈ out, 0 ≤ c.n ∧ c.n ≤ (cntR (told p L R) (encR c.r) : Int) := fun c hc => by
    have h1 := ch.getK_of hr (List.mem_map.2 ⟨c, hc, rfl⟩ : (encR c.r, c.n) ∈ ch.kvOf out)
    have h1' : ch.getK (ch.kvOf out) (encR c.r) = c.n := h1
    rw [hg, rowsK_get hT, rowsK_get hS] at h1'
    have h2 := cntR_sub (inner_sub b.plan L R) (encR c.r)
    omega
  have hd : ch.dels out = [] := by
    unfold ch.dels
    rw [List.flatMap_eq_nil_iff]
    intro c hcm
    rw [show (-c.n).toNat = 0 by have := (hc c hcm).1; omega]
    rfl
  unfold ch.madeL
  rw [hd, List.nil_append]
  refine ⟨?_, fun c hcm => (ch.inss_mem hcm).1⟩
  have := inss_few (told p L R) out hr (fun c hcm => (hc c hcm).2)
  have := List.length_filter_le (fun x => out.any fun c => encR c.r == encR x) (told p L R)
  omega
theorem sumQ_app (q : List Cel → Bool) : ∀ (a b : List ch.Cnt), sumQ q (a ++ b) = sumQ q a + sumQ q b
  | [], b => by rw [List.nil_append, sumQ, Int.zero_add]
  | c :: a, b => by rw [List.cons_append, sumQ, sumQ, sumQ_app q a b, Int.add_assoc]
theorem sumQ_snoc (q : List Cel → Bool) (out : List ch.Cnt) (k : Nat) (h : k < out.length) : sumQ q (out.take (k + 1)) = sumQ q (out.take k) + (if q (out.getD k default).r = true then (out.getD k default).n else 0) := by
  rw [take_c out k h, sumQ_app, sumQ, sumQ, Int.add_zero]
theorem sumQ_bound (q : List Cel → Bool) : ∀ (out : List ch.Cnt), (∀ c ∈ out, 0 ≤ c.n ∧ c.n ≤ 4096) → 0 ≤ sumQ q out ∧ sumQ q out ≤ (out.length : Int) * 4096
  | [], _ => by rw [sumQ]; simp
  | c :: out, h => by
    have ih := sumQ_bound q out (fun d hd => h d (List.mem_cons_of_mem _ hd))
    have hc := h c (List.mem_cons_self ..)
    rw [sumQ, List.length_cons]
    split <;> omega
theorem preB_is {r x : List Cel} (h : r.length ≤ x.length) : preB r x = decide (x.take r.length = r) := rfl
theorem preB_no {r x : List Cel} (h : x.length < r.length) : preB r x = false := by
  unfold preB
  refine decide_eq_false (fun e => ?_)
  have := congrArg List.length e
  rw [List.length_take] at this
  omega
set_option maxRecDepth 100000 in
set_option maxHeartbeats 4000000 in
theorem leftParts_any (a : Option Addr) (ca : Nat) (out : List ch.Cnt) (ra : Option Addr) (rc : Nat) (r : List Cel) (w : World) (hv : ch.viewAtC w a out) (hr : vl.rowAt w ra r) (hl : out.length ≤ 4096) (hrl : r.length ≤ 4096) (hn : ∀ c ∈ out, 0 ≤ c.n ∧ c.n ≤ 4096) (hol : ∀ c ∈ out, c.r.length ≤ 4096) :
    Calls Tryz.prog 26 #[.slice a out.length ca, .slice ra r.length rc] w fun e w' => e = .returned (.int .i64 (sumQ (preB r) out)) ∧ Below w.heap.size w w' := by
  have HV : Hid (ch.viewAtC w a out) := hv
  have HB : Hid (∀ k, k ≤ out.length → 0 ≤ sumQ (preB r) (out.take k) ∧ sumQ (preB r) (out.take k) ≤ 16777216) := fun k hk => by
    have := sumQ_bound (preB r) (out.take k) (fun c hc => hn c (List.mem_of_mem_take hc))
    rw [List.length_take] at this
    omega
  have HST : Hid (∀ k, k < out.length → sumQ (preB r) (out.take (k + 1)) = sumQ (preB r) (out.take k) + (if preB r (out.getD k default).r = true then (out.getD k default).n else 0)) := fun k hk => sumQ_snoc _ _ _ hk
  have HEND : Hid (sumQ (preB r) (out.take out.length) = sumQ (preB r) out) := by show sumQ _ _ = _; rw [List.take_length]
  have HNN : Hid (∀ k, k < out.length → (0 ≤ (out.getD k default).n ∧ (out.getD k default).n ≤ 4096) ∧ (out.getD k default).r.length ≤ 4096) := fun k hk => by
    have hm : out.getD k default ∈ out := by simp [List.getD_eq_getElem?_getD, hk]
    exact ⟨hn _ hm, hol _ hm⟩
  have KS : Hid (∀ (fa : Option Addr) (fc : Nat) (x : List Cel) (w1 : World), x.length = r.length → vl.rowAt w1 fa x → Below w.heap.size w w1 → Calls Tryz.prog 25 #[.slice fa r.length fc, .slice ra r.length rc] w1 fun e w' => e = .returned (.bool (decide (x = r))) ∧ Below w1.heap.size w1 w') := fun fa fc x w1 hx h1 hb => by
    have := vl.same_any fa ra fc rc x r w1 h1 (rowAt_below hr hb) (by omega) (by omega)
    rw [hx] at this
    exact this
  have HPB : Hid (∀ x : List Cel, preB r x = decide (x.take r.length = r)) := fun x => rfl
  have HPN : Hid (∀ x : List Cel, x.length < r.length → preB r x = false) := fun x hx => preB_no hx
  obtain ⟨S, hS⟩ : ∃ z, (fun k => sumQ (preB r) (out.take k)) = z := ⟨_, rfl⟩
  have hS' : ∀ k, sumQ (preB r) (out.take k) = S k := fun k => by rw [← hS]
  have H0 : Hid (S 0 = 0) := by show S 0 = 0; rw [← hS' 0]; rfl
  simp only [hS'] at HB HST HEND
  obtain ⟨P, hP⟩ : ∃ z, preB r = z := ⟨_, rfl⟩
  rw [hP] at HST HPB HPN
  obtain ⟨fin, hfin⟩ : ∃ z, sumQ (preB r) out = z := ⟨_, rfl⟩
  rw [hfin] at HEND ⊢
  obtain ⟨rn, hrn⟩ : ∃ n, r.length = n := ⟨_, rfl⟩
  rw [hrn] at hrl KS HPB HPN ⊢
  have HRN : Hid (r.length = rn) := hrn
  obtain ⟨m, hm⟩ : ∃ n, out.length = n := ⟨_, rfl⟩
  rw [hm] at hl HB HEND HNN HST ⊢
  have HM : Hid (out.length = m) := hm
  clear hv hr hn hol hS hS' hP hfin hrn hm
  go_enter Tryz.func26, Tryz.ntmps26
  go_wp2
  go_loopw [5, 6] (fun n i wr => ∃ k : Nat, k ≤ m ∧ i = .int .i64 k ∧ n = .int .i64 (S k) ∧ Below w.heap.size w wr) (fun _ i _ => m - (intOf i).toNat)
  case atStart => exact ⟨0, Nat.zero_le _, rfl, by rw [H0.out], Below.refl _ _⟩
  case round =>
    obtain ⟨k, hkm, rfl, rfl, hnx⟩ := hrel
    by_cases hlt : k < m
    · obtain ⟨b, o, xa, xc, e, x1, x2, x3⟩ := HV.out.1 k (by rw [HM.out]; exact hlt)
      have hcap := HV.out.2 k (by rw [HM.out]; exact hlt) b o xa _ xc e x1
      subst e
      obtain ⟨⟨y1, y2⟩, y3⟩ := HNN.out k hlt
      have HSK := HST.out k hlt
      have hsb := HB.out k hkm
      have HX : Hid (vl.rowAt w xa (out.getD k default).r) := x2
      obtain ⟨row, hrow⟩ : ∃ z, (out.getD k default).r = z := ⟨_, rfl⟩
      rw [hrow] at x1 hcap y3 HSK HX
      obtain ⟨cn, hcn⟩ : ∃ z, (out.getD k default).n = z := ⟨_, rfl⟩
      rw [hcn] at x3 y1 y2 HSK
      have HSX : Hid (S (k + 1) = S k + (if P row = true then cn else 0)) := HSK
      obtain ⟨rl, hrl2⟩ : ∃ z, row.length = z := ⟨_, rfl⟩
      have HRL : Hid (row.length = rl) := hrl2
      rw [hrl2] at x1 hcap y3
      have g1 := cell_later hnx x1
      have g2 := cell_later hnx x3
      clear x2 hrow hcn hrl2 HSK
      have i1 : (0 : Int) ≤ (k : Int) := by omega
      have i2 : (k : Int) < (m : Int) := by omega
      obtain ⟨sk, hsk⟩ : ∃ z, S k = z := ⟨_, rfl⟩
      rw [hsk] at HSX hsb ⊢
      clear hsk
      by_cases hge : rn ≤ rl
      · have d1 : decide ((rl : Int) ≥ (rn : Int)) = true := decide_eq_true (by omega)
        obtain ⟨fa, hs1, hfront⟩ := rowFront xa rl xc rn hge hcap
        have KSS : Hid (∀ w1, Below w.heap.size w w1 → Calls Tryz.prog 25 #[.slice fa rn xc, .slice ra rn rc] w1 fun e w' => e = .returned (.bool (P row)) ∧ Below w1.heap.size w1 w') := fun w1 hb => by
          have := KS.out fa xc (row.take rn) w1 (by rw [List.length_take, HRL.out]; have := HRN.out; omega) (hfront w1 row HRL.out (rowAt_below HX.out hb)) hb
          rw [← HPB.out row] at this
          exact this
        clear hfront
        cases hp : P row with
        | true =>
          rw [hp] at KSS
          have HE : Hid (S (k + 1) = sk + cn) := by show S (k + 1) = _; rw [HSX.out, hp, if_pos rfl]
          have hsum : -9223372036854775808 ≤ sk + cn ∧ sk + cn ≤ 9223372036854775807 := by omega
          go_wp2_with fail
          refine (KSS.out _ hnx).mono ?_
          rintro e w2 ⟨rfl, hb2⟩
          have hn2 := hnx.trans (hb2.mono hnx.size)
          have g3 := cell_later hb2 g2
          go_wp2
          go_roundw
          case rel => exact ⟨k + 1, by omega, by go_num, by rw [HE.out], hn2⟩
          case measure => simp [intOf]; omega
        | false =>
          rw [hp] at KSS
          have HE : Hid (S (k + 1) = sk) := by show S (k + 1) = _; rw [HSX.out, hp, if_neg (by decide), Int.add_zero]
          go_wp2_with fail
          refine (KSS.out _ hnx).mono ?_
          rintro e w2 ⟨rfl, hb2⟩
          have hn2 := hnx.trans (hb2.mono hnx.size)
          go_wp2
          go_roundw
          case rel => exact ⟨k + 1, by omega, by go_num, by rw [HE.out], hn2⟩
          case measure => simp [intOf]; omega
      · have d1 : decide ((rl : Int) ≥ (rn : Int)) = false := decide_eq_false (by omega)
        have HE : Hid (S (k + 1) = sk) := by show S (k + 1) = _; rw [HSX.out, HPN.out row (by rw [HRL.out]; omega), if_neg (by decide), Int.add_zero]
        go_wp2
        go_roundw
        case rel => exact ⟨k + 1, by omega, by go_num, by rw [HE.out], hnx⟩
        case measure => simp [intOf]; omega
    · have hke : k = m := by omega
      subst hke
      go_wp2
      go_ret
      exact ⟨by rw [← HEND.out]; rfl, hnx⟩
end Go.Proofs.YtcpanmaahhiioaaGreat.bt
