/- keysRight, aggsRight. -/
import Derived.Test.YtibjihdeknndoaaPlnPlaces
namespace Go.Proofs.Ytibjihdeknndoaa.pl
open Go.ChangeShapes Go.WideShapes Go.ChangeAt Go.RowKit
open vl
set_option linter.unusedVariables false
set_option linter.unusedSimpArgs false
/-- where the Bool says so, it is so -/
def yes (b : Bool) (P : Prop) : Prop := b = true → P
def pairB (p : Pln) (i : Nat) : Bool := decide (p.left.getD (p.lkeys.getD i 0).toNat 0 = p.right.getD (p.rkeys.getD i 0).toNat 0)
theorem pairs_iff (p : Pln) : decide (pairsOk p) = allB p.lkeys.length (pairB p) := by
  refine (dec_bool ?_).symm
  rw [allB_iff]
  unfold pairsOk pairB
  simp only [decide_eq_true_eq]
/-- a plan lies boxed in a block -/
def boxedAt (w : World) (B : Nat) (p : Pln) (x : PA) : Prop :=
  w.cell? ⟨B, 6, none⟩ = some (.slice x.l p.left.length x.lc) ∧ w.cell? ⟨B, 7, none⟩ = some (.slice x.r p.right.length x.rc) ∧ w.cell? ⟨B, 9, none⟩ = some (.slice x.rk p.rkeys.length x.rkc)
set_option maxHeartbeats 2000000 in
theorem ky1_any (i : Nat) (B : Nat) (p : Pln) (x : PA) (w : World) (hw : wfPlan p) (hb : boxedAt w B p x) (hp : planAt w p x) (hi : i < p.lkeys.length) (hlen : p.lkeys.length = p.rkeys.length) (h1 : placesOk p.lkeys p.left.length) (h2 : placesOk p.rkeys p.right.length) :
    Calls Try.prog 77 #[.int .i64 i, .int .i64 (p.lkeys.getD i 0), .pointer (some ⟨B, 0, none⟩)] w fun e w' => e = .returned (.bool (pairB p i)) ∧ Below w.heap.size w w' := by
  have HB : Hid (pairB p i = decide (p.left.getD (p.lkeys.getD i 0).toNat 0 = p.right.getD (p.rkeys.getD i 0).toNat 0)) := rfl
  obtain ⟨g1, g2, g3⟩ := hb
  have k1 := h1.1 _ (getD_mem (d := 0) hi)
  have k2 := h2.1 _ (getD_mem (d := 0) (show i < p.rkeys.length by omega))
  obtain ⟨br, orr, er, xr⟩ := hp.rk i (by omega)
  obtain ⟨a1, ha1⟩ : ∃ z, p.lkeys.getD i 0 = z := ⟨_, rfl⟩
  obtain ⟨a2, ha2⟩ : ∃ z, p.rkeys.getD i 0 = z := ⟨_, rfl⟩
  rw [ha1] at k1 HB ⊢
  rw [ha2] at k2 HB xr
  obtain ⟨m1, hm1⟩ := Int.eq_ofNat_of_zero_le k1.1
  obtain ⟨m2, hm2⟩ := Int.eq_ofNat_of_zero_le k2.1
  subst hm1 hm2
  rw [Int.toNat_natCast, Int.toNat_natCast] at HB
  obtain ⟨bl, ol, el, xl⟩ := hp.l m1 (by omega)
  obtain ⟨bq, oq, eq, xq⟩ := hp.r m2 (by omega)
  obtain ⟨v1, hv1⟩ : ∃ z, p.left.getD m1 0 = z := ⟨_, rfl⟩
  obtain ⟨v2, hv2⟩ : ∃ z, p.right.getD m2 0 = z := ⟨_, rfl⟩
  rw [hv1] at xl HB
  rw [hv2] at xq HB
  rw [el] at g1
  rw [eq] at g2
  rw [er] at g3
  obtain ⟨n6, h6⟩ : ∃ n, p.left.length = n := ⟨_, rfl⟩
  obtain ⟨n7, h7⟩ : ∃ n, p.right.length = n := ⟨_, rfl⟩
  obtain ⟨n9, h9⟩ : ∃ n, p.rkeys.length = n := ⟨_, rfl⟩
  have w6 := hw.l
  have w7 := hw.r
  have w9 := hw.rk
  have hi9 : i < n9 := by omega
  rw [h6] at g1 k1 w6
  rw [h7] at g2 k2 w7
  rw [h9] at g3 w9
  obtain ⟨k1a, k1b⟩ := k1
  obtain ⟨k2a, k2b⟩ := k2
  have i1 : (0 : Int) ≤ (i : Int) := by omega
  have i2 : (i : Int) < (n9 : Int) := by omega
  clear ha1 ha2 hv1 hv2 h6 h7 h9 hw hp h1 h2 hi hlen el eq er
  go_enter Try.func77, Try.ntmps77
  go_wp2
  go_region
  all_goals
    go_wp2
    go_ret
    refine ⟨ret_bool (by rw [HB.out]; exact Bool.eq_iff_iff.2 (by simp)), ?_⟩
    repeat (first | exact Below.refl _ _ | apply Below.drew)

set_option maxHeartbeats 2000000 in
theorem keysRight_any (p : Pln) (x : PA) (w : World) (hw : wfPlan p) (hp : planAt w p x) :
    Calls Try.prog 66 #[planV p x] w fun e w' => e = .returned (.bool (decide (keysOk p))) ∧ Below w.heap.size w w' := by
  have K1 : Hid (∀ w1, Below w.heap.size w w1 → Calls Try.prog 67 #[.slice x.lk p.lkeys.length x.lkc, .slice x.l p.left.length x.lc] w1 fun e w' => e = .returned (.bool (decide (placesOk p.lkeys p.left.length))) ∧ Below w1.heap.size w1 w') := fun w1 hb => placesRight_any x.lk x.l x.lkc x.lc p.left.length p.lkeys w1 hw.lk hw.l (intsAt_below hp.lk hb)
  have K2 : Hid (∀ w1, Below w.heap.size w w1 → Calls Try.prog 67 #[.slice x.rk p.rkeys.length x.rkc, .slice x.r p.right.length x.rc] w1 fun e w' => e = .returned (.bool (decide (placesOk p.rkeys p.right.length))) ∧ Below w1.heap.size w1 w') := fun w1 hb => placesRight_any x.rk x.r x.rkc x.rc p.right.length p.rkeys w1 hw.rk hw.r (intsAt_below hp.rk hb)
  have K3 : Hid (∀ B w1, Below w.heap.size w w1 → p.lkeys.length = p.rkeys.length → placesOk p.lkeys p.left.length → placesOk p.rkeys p.right.length → w1.cell? ⟨B, 6, none⟩ = some (.slice x.l p.left.length x.lc) → w1.cell? ⟨B, 7, none⟩ = some (.slice x.r p.right.length x.rc) → w1.cell? ⟨B, 9, none⟩ = some (.slice x.rk p.rkeys.length x.rkc) →
      Calls Try.prog 64 #[.slice x.lk p.lkeys.length x.lkc, .func (.func 77) #[] #[.pointer (some ⟨B, 0, none⟩)]] w1 fun e w' => e = .returned (.bool (decide (pairsOk p))) ∧ Below w1.heap.size w1 w') := by
    intro B w1 hb hlen h1 h2 e6 e7 e9
    rw [pairs_iff]
    exact everyInt_any 77 (enters_of Try.func77 (by kernel_rfl) rfl) #[.pointer (some ⟨B, 0, none⟩)] (pairB p) x.lk x.lkc p.lkeys w1 hw.lk (intsAt_below hp.lk hb)
      (fun i w2 hi hb2 => ky1_any i B p x w2 hw ⟨cell_later hb2 e6, cell_later hb2 e7, cell_later hb2 e9⟩ (planAt_below (planAt_below hp hb) hb2) hi hlen h1 h2)
  have HK : Hid (decide (keysOk p) = (decide (p.lkeys.length = p.rkeys.length) && decide (placesOk p.lkeys p.left.length) && decide (placesOk p.rkeys p.right.length) && decide (pairsOk p))) := by
    refine (dec_bool ?_).symm
    unfold keysOk
    simp only [Bool.and_eq_true, decide_eq_true_eq, and_assoc]
  have HP1 : yes (decide (placesOk p.lkeys p.left.length)) (placesOk p.lkeys p.left.length) := of_decide_eq_true
  have HP2 : yes (decide (placesOk p.rkeys p.right.length)) (placesOk p.rkeys p.right.length) := of_decide_eq_true
  obtain ⟨q1, hq1⟩ : ∃ z, decide (placesOk p.lkeys p.left.length) = z := ⟨_, rfl⟩
  obtain ⟨q2, hq2⟩ : ∃ z, decide (placesOk p.rkeys p.right.length) = z := ⟨_, rfl⟩
  obtain ⟨q3, hq3⟩ : ∃ z, decide (pairsOk p) = z := ⟨_, rfl⟩
  rw [hq1] at K1 HK HP1
  rw [hq2] at K2 HK HP2
  rw [hq3] at K3 HK
  clear hq1 hq2 hq3 hw hp
  obtain ⟨P1, hP1⟩ : ∃ z, placesOk p.lkeys p.left.length = z := ⟨_, rfl⟩
  obtain ⟨P2, hP2⟩ : ∃ z, placesOk p.rkeys p.right.length = z := ⟨_, rfl⟩
  rw [hP1] at K3 HP1
  rw [hP2] at K3 HP2
  clear hP1 hP2
  obtain ⟨kind, mode, low, high, size, limit, left, right, lkeys, rkeys, grouped, group, aggs⟩ := p
  obtain ⟨l, lc, r, rc, lk, lkc, rk, rkc, g, gc, a, ac⟩ := x
  unfold planV
  dsimp only at K1 K2 K3 HK ⊢
  obtain ⟨n6, h6⟩ : ∃ n, left.length = n := ⟨_, rfl⟩
  obtain ⟨n7, h7⟩ : ∃ n, right.length = n := ⟨_, rfl⟩
  obtain ⟨n8, h8⟩ : ∃ n, lkeys.length = n := ⟨_, rfl⟩
  obtain ⟨n9, h9⟩ : ∃ n, rkeys.length = n := ⟨_, rfl⟩
  rw [h6, h8] at K1
  rw [h7, h9] at K2
  rw [h6, h7, h8, h9] at K3
  rw [h8, h9] at HK
  rw [h6, h7, h8, h9]
  clear h6 h7 h8 h9
  by_cases hlen : n8 = n9
  · subst hlen
    have hl8 : ((n8 : Int) == n8) = true := by simp
    rw [show decide (n8 = n8) = true by simp] at HK
    cases q1 <;> cases q2 <;> cases q3
    all_goals
      go_enter Try.func66, Try.ntmps66
      go_wp2_with (first
        | (go_at_call 67; have tk := K1; refine (K1.out _ ((Below.refl _ _).alloc (Nat.le_refl _) _)).mono ?_; rintro e w1 ⟨rfl, hb1⟩; have hba := ((Below.refl _ _).alloc (Nat.le_refl _) _).trans (hb1.mono (by simp)); obtain ⟨hc1, hf1⟩ := bcell hb1; have hz1 : w.heap.size < w1.heap.size := (by have := hb1.size; simp at this; omega); clear K1)
        | (go_at_call 67; have tk := K2; refine (K2.out _ hba).mono ?_; rintro e w2 ⟨rfl, hb2⟩; have hbb := hba.trans (hb2.mono hba.size); obtain ⟨hc2, hf2⟩ := bcell hb2; have hz2 : w.heap.size < w2.heap.size := (by have := hb2.size; omega); clear K2)
        | (go_at_call 64; refine (K3.out _ _ hbb (by trivial) (HP1 rfl) (HP2 rfl) (by rw [hc2 _ _ hz1, hc1 _ _ (by simp)]; go_simp) (by rw [hc2 _ _ hz1, hc1 _ _ (by simp)]; go_simp) (by rw [hc2 _ _ hz1, hc1 _ _ (by simp)]; go_simp)).mono ?_; rintro e w3 ⟨rfl, hb3⟩; have hbc := hbb.trans (hb3.mono hbb.size)))
      go_ret
      refine ⟨ret_bool (by rw [HK.out]; rfl), ?_⟩
      first
        | exact hbc
        | exact hbb
        | exact hba
  · have hl8 : ((n8 : Int) == n9) = false := by simp; omega
    rw [decide_eq_false hlen] at HK
    clear hlen
    go_enter Try.func66, Try.ntmps66
    go_wp2
    go_ret
    exact ⟨ret_bool (by rw [HK.out]; rfl), (Below.refl _ _).alloc (Nat.le_refl _) _⟩

def aggB (c : List Int) (a : Int × Int) : Bool := decide (aggOk c a)
set_option maxHeartbeats 2000000 in
theorem ag1_any (i : Int) (B : Nat) (ad : Option Addr) (cp : Nat) (c : List Int) (f k : Int) (w : World) (hl : c.length ≤ 9223372036854775807) (hc : intsAt w ad c) (hb : w.cell? ⟨B, 0, none⟩ = some (.slice ad c.length cp)) :
    Calls Try.prog 81 #[.int .i64 i, .agg #[.int .i64 f, .int .i64 k], .pointer (some ⟨B, 0, none⟩)] w fun e w' => e = .returned (.bool (aggB c (f, k))) ∧ Below w.heap.size w w' := by
  have hBlt := World.block_lt_of_cell? _ _ hb
  have HB : Hid (aggB c (f, k) = true ↔ if f = 1 then k = 0 else (0 ≤ k ∧ k < (c.length : Int)) ∧ (f = 2 → c.getD k.toNat 0 = 2)) := by show aggB c (f, k) = true ↔ aggOk c (f, k); unfold aggB; exact decide_eq_true_iff
  have HC : Hid (intsAt w ad c) := hc
  obtain ⟨n, hn⟩ : ∃ n, c.length = n := ⟨_, rfl⟩
  have HN : Hid (c.length = n) := hn
  rw [hn] at hl hb HB
  clear hn hc
  have hBlt' : B < w.heap.size := hBlt
  by_cases f1 : f = 1
  · subst f1
    rw [if_pos rfl] at HB
    go_enter Try.func81, Try.ntmps81
    go_wp2
    go_ret
    exact ⟨ret_bool (Bool.eq_iff_iff.2 (by rw [HB.out]; simp)), (Below.refl _ _).alloc (Nat.le_refl _) _⟩
  · have f1' : (f == 1) = false := by simpa using f1
    rw [if_neg f1] at HB
    clear f1
    cases hbt : betw k 0 ((n : Int) - 1) with
    | false =>
      have hno := (betw_no _ _ _).1 hbt
      have HR : Hid (aggB c (f, k) = false) := Bool.eq_false_iff.2 (fun h => hno ⟨(HB.out.1 h).1.1, by have := (HB.out.1 h).1.2; omega⟩)
      clear hno HB
      by_cases f2 : f = 2
      · subst f2
        go_enter Try.func81, Try.ntmps81
        go_wp2_with (go_at_call 79; refine (isPlace_any _ _ _ _ _ hl).mono ?_; rintro e w' ⟨rfl, hw⟩; subst hw)
        go_ret
        exact ⟨ret_bool HR.out.symm, (Below.refl _ _).alloc (Nat.le_refl _) _⟩
      · have f2' : (f == 2) = false := by simpa using f2
        clear f2
        go_enter Try.func81, Try.ntmps81
        go_wp2_with (go_at_call 79; refine (isPlace_any _ _ _ _ _ hl).mono ?_; rintro e w' ⟨rfl, hw⟩; subst hw)
        go_ret
        exact ⟨ret_bool HR.out.symm, (Below.refl _ _).alloc (Nat.le_refl _) _⟩
    | true =>
      obtain ⟨y1, y2⟩ := (betw_iff _ _ _).1 hbt
      by_cases f2 : f = 2
      · subst f2
        obtain ⟨m, rfl⟩ := Int.eq_ofNat_of_zero_le y1
        obtain ⟨bc, oc, ec, xc⟩ := HC.out m (by rw [HN.out]; omega)
        have HR : Hid (aggB c (2, (m : Int)) = decide (c.getD m 0 = 2)) := by
          show aggB c (2, (m : Int)) = _
          refine Bool.eq_iff_iff.2 ?_
          rw [HB.out]
          simp
          omega
        subst ec
        obtain ⟨v, hv⟩ : ∃ z, c.getD m 0 = z := ⟨_, rfl⟩
        rw [hv] at xc HR
        have hclt := World.block_lt_of_cell? _ _ xc
        have hclt' : bc < w.heap.size := hclt
        clear hv HB
        have y3 : (m : Int) < (n : Int) := by omega
        go_enter Try.func81, Try.ntmps81
        go_wp2_with (go_at_call 79; refine (isPlace_any _ _ _ _ _ hl).mono ?_; rintro e w' ⟨rfl, hw⟩; subst hw)
        go_ret
        exact ⟨ret_bool (by rw [HR.out]; exact Bool.eq_iff_iff.2 (by simp)), (Below.refl _ _).alloc (Nat.le_refl _) _⟩
      · have f2' : (f == 2) = false := by simpa using f2
        have HR : Hid (aggB c (f, k) = true) := HB.out.2 ⟨⟨y1, by omega⟩, fun h => absurd h f2⟩
        clear f2 HB
        go_enter Try.func81, Try.ntmps81
        go_wp2_with (go_at_call 79; refine (isPlace_any _ _ _ _ _ hl).mono ?_; rintro e w' ⟨rfl, hw⟩; subst hw)
        go_ret
        exact ⟨ret_bool HR.out.symm, (Below.refl _ _).alloc (Nat.le_refl _) _⟩
def aggsOk (c : List Int) (l : List (Int × Int)) : Prop := ∀ a ∈ l, aggOk c a
instance (c : List Int) (l : List (Int × Int)) : Decidable (aggsOk c l) := by unfold aggsOk; infer_instance
theorem aggs_iff (c : List Int) (l : List (Int × Int)) : decide (aggsOk c l) = allB l.length (fun i => aggB c (l.getD i (0, 0))) := by
  refine (dec_bool ?_).symm
  rw [allB_iff]
  unfold aggsOk aggB
  simp only [decide_eq_true_eq]
  exact all_getD (Q := fun a : Int × Int => aggOk c a)
set_option maxHeartbeats 1000000 in
theorem aggsRight_any (a ad : Option Addr) (ca cp : Nat) (l : List (Int × Int)) (c : List Int) (w : World) (hl : l.length ≤ 9223372036854775807) (hcl : c.length ≤ 9223372036854775807) (ha : aggsAt w a l) (hc : intsAt w ad c) :
    Calls Try.prog 68 #[.slice a l.length ca, .slice ad c.length cp] w fun e w' => e = .returned (.bool (decide (aggsOk c l))) ∧ Below w.heap.size w w' := by
  have K : Hid (∀ B w1, Below w.heap.size w w1 → w1.cell? ⟨B, 0, none⟩ = some (.slice ad c.length cp) →
      Calls Try.prog 75 #[.slice a l.length ca, .func (.func 81) #[] #[.pointer (some ⟨B, 0, none⟩)]] w1 fun e w' => e = .returned (.bool (decide (aggsOk c l))) ∧ Below w1.heap.size w1 w') := by
    intro B w1 hb e0
    rw [aggs_iff]
    exact everyAgg_any 81 (enters_of Try.func81 (by kernel_rfl) rfl) #[.pointer (some ⟨B, 0, none⟩)] (fun i => aggB c (l.getD i (0, 0))) a ca l w1 hl (aggsAt_below ha hb)
      (fun i w2 hi hb2 => ag1_any i B ad cp c _ _ w2 hcl (intsAt_below (intsAt_below hc hb) hb2) (cell_later hb2 e0))
  obtain ⟨m, hm⟩ : ∃ z, l.length = z := ⟨_, rfl⟩
  obtain ⟨k, hk⟩ : ∃ z, c.length = z := ⟨_, rfl⟩
  obtain ⟨tb, htb⟩ : ∃ z, decide (aggsOk c l) = z := ⟨_, rfl⟩
  rw [hm, hk, htb] at K
  rw [hm, hk, htb]
  clear hm hk htb ha hc hl hcl
  go_enter Try.func68, Try.ntmps68
  go_wp2_with (go_at_call 75; refine (K.out _ _ ((Below.refl _ _).alloc (Nat.le_refl _) _) (by go_simp)).mono ?_; rintro e w1 ⟨rfl, hb1⟩)
  go_ret
  exact ⟨rfl, ((Below.refl _ _).alloc (Nat.le_refl _) _).trans (hb1.mono (by simp))⟩
end Go.Proofs.Ytibjihdeknndoaa.pl
