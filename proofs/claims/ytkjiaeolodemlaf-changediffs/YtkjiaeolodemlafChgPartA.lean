/- Several texts in one: ChgCuts, ChgCutsWalk, ChgSum, ChgPlay, ChgUndo, ChgSteps, ChgDiff, ChgCopy, ChgSameC, ChgTold, ChgMerge, ChgDS. -/
import Derived.Test.YtkjiaeolodemlafChgOpen
import Derived.Test.YtkjiaeolodemlafChgAll
import Derived.Test.YtkjiaeolodemlafChgNet
import Derived.Test.YtkjiaeolodemlafChgMade
import Derived.Maps.RangeWalk
import Derived.Sort.MapsRangeIn
import Derived.Test.YtkjiaeolodemlafChgSame
/- ChangeCuts answers true. -/
namespace Go.Proofs.Ytkjiaeolodemlaf.ch
open Go.ChangeShapes Go.WideShapes Go.ChangeAt Go.RowKit Go.Maps Go.WideMaps Go.Sort
open vl
set_option linter.unusedVariables false
set_option linter.unusedSimpArgs false

theorem tmod_le {c m : Int} {n : Nat} (hc : 0 ≤ c) (hc2 : c ≤ 9223372036854775807) (hm : m = n + 1 ∨ (n = 9223372036854775807 ∧ m = -9223372036854775808)) : 0 ≤ c.tmod m ∧ c.tmod m ≤ n := by
  refine ⟨Int.tmod_nonneg m hc, ?_⟩
  rcases hm with h | ⟨h1, h2⟩
  · have := Int.tmod_lt_of_pos c (b := m) (by omega)
    omega
  · have h3 : c.tmod m ≤ c := by
      rw [h2, Int.tmod_neg, Int.tmod_eq_emod_of_nonneg hc]
      omega
    omega

set_option maxHeartbeats 1000000 in
theorem choose_any (c m : Int) (n : Nat) (w : World) (c1 : -9223372036854775808 ≤ c) (c2 : c ≤ 9223372036854775807) (hm : m = n + 1 ∨ (n = 9223372036854775807 ∧ m = -9223372036854775808)) (hn : n ≤ 9223372036854775807) :
    Calls Try.prog 19 #[.int .i64 c, .int .i64 m] w fun e w' => (∃ k : Nat, k ≤ n ∧ e = .returned (.int .i64 k)) ∧ w' = w := by
  have m0 : (m == 0) = false := by rw [beq_eq_false_iff_ne]; omega
  have m1 : m ≠ 0 := by omega
  by_cases h : c < 0
  · have hw1 : IntKind.i64.wrap (c + 1) = c + 1 := by rw [wrap_is]; omega
    have hw2 : IntKind.i64.wrap (-(c + 1)) = -(c + 1) := by rw [wrap_is]; omega
    have ht := tmod_le (c := -(c + 1)) (by omega) (by omega) hm
    have hw3 : IntKind.i64.wrap ((-(c + 1)).tmod m) = (-(c + 1)).tmod m := by rw [wrap_is]; omega
    have HT : Hid (0 ≤ (-(c + 1)).tmod m ∧ (-(c + 1)).tmod m ≤ n) := ht
    clear ht
    go_enter Try.func19, Try.ntmps19
    go_wp2
    go_ret
    exact ⟨⟨((-(c + 1)).tmod m).toNat, by have := HT.out; omega, ret_int (by rw [Int.toNat_of_nonneg HT.out.1, Int.neg_tmod])⟩, rfl⟩
  · have ht := tmod_le (c := c) (by omega) (by omega) hm
    have hw3 : IntKind.i64.wrap (c.tmod m) = c.tmod m := by rw [wrap_is]; omega
    have HT : Hid (0 ≤ c.tmod m ∧ c.tmod m ≤ n) := ht
    clear ht
    go_enter Try.func19, Try.ntmps19
    go_wp2
    go_ret
    exact ⟨⟨(c.tmod m).toNat, by have := HT.out; omega, ret_int (by rw [Int.toNat_of_nonneg HT.out.1, Int.tmod_eq_emod_of_nonneg (by omega)])⟩, rfl⟩

theorem form_any (a : Option Addr) (cap : Nat) (l : List Chg) (w : World) (hv : chgsAt w a l) (hw : wfChgs l) (hl : l.length ≤ 9223372036854775807) :
    Calls Try.prog 20 #[.slice a l.length cap] w fun e w' => e = .returned (.int .i64 (formErr l)) ∧ Below w.heap.size w w' := by
  have KK := keysOf_any a cap l w hv hw hl
  obtain ⟨n, hn⟩ : ∃ n, l.length = n := ⟨_, rfl⟩
  rw [hn] at KK
  rw [hn]
  go_enter Try.func20, Try.ntmps20
  go_wp2_with fail
  refine KK.mono ?_
  rintro e w1 ⟨hres, hb⟩
  rcases hres with ⟨h1, _, ad, c, rfl, _⟩ | ⟨_, rfl⟩
  · go_wp2
    go_ret
    exact ⟨ret_int h1.symm, hb⟩
  · go_wp2
    go_ret
    exact ⟨rfl, hb⟩

theorem sizeG (w : World) : (sizeOf 58).run Try.prog w = .ok 2 w := by kernel_rfl
theorem elemG : Try.prog.elem 23 = 58 := by kernel_rfl
theorem undG : Try.prog.underlying 23 = some (.slice (Try.prog.elem 23)) := by rw [elemG]; exact Try.underlying23
/-- the front of changes -/
theorem front_is (a : Option Addr) (n cap k : Nat) (hk : k ≤ n) (hn : n ≤ cap) : ∃ a1, (∀ w, (Instr.sliceAt 23 (.slice a n cap) none (some (.int .i64 k)) none).run Try.prog w = .ok (.slice a1 k cap) w) ∧ ∀ (w : World) (l : List Chg), l.length = n → chgsAt w a l → chgsAt w a1 (l.take k) := by
  refine ⟨if cap = 0 then a else a.map (·.add (0 * 2)), ?_, ?_⟩
  · intro w
    rw [run_sliceAt_slice (t := 23) (h := undG), run_slice_h (t := 23) (ht := undG) (h0 := by omega) (h2 := by omega), elemG, sizeG]
    simp [Result.andThen, sliced]
  · intro w l hl h i hi
    rw [List.length_take] at hi
    obtain ⟨b, o, ra, rc, e, x1, x2, x3⟩ := h i (by omega)
    have eg : (l.take k).getD i default = l.getD i default := by
      simp only [List.getD_eq_getElem?_getD, List.getElem?_take]; rw [if_pos (by omega)]
    rw [eg]
    refine ⟨b, o, ra, rc, ?_, x1, x2, x3⟩
    rw [e, if_neg (by omega)]
    simp [Addr.add]
theorem back_is (a : Option Addr) (n cap k : Nat) (hk : k ≤ n) (hn : n ≤ cap) : ∃ a2 cap2, (∀ w, (Instr.sliceAt 23 (.slice a n cap) (some (.int .i64 k)) none none).run Try.prog w = .ok (.slice a2 (n - k) cap2) w) ∧ ∀ (w : World) (l : List Chg), l.length = n → chgsAt w a l → chgsAt w a2 (l.drop k) := by
  refine ⟨if cap = k then a else a.map (·.add (k * 2)), cap - k, ?_, ?_⟩
  · intro w
    rw [run_sliceAt_slice (t := 23) (h := undG), run_slice_l (t := 23) (ht := undG) (h0 := by omega) (h1 := by omega), elemG, sizeG]
    simp [Result.andThen, sliced]
  · intro w l hl h i hi
    rw [List.length_drop] at hi
    obtain ⟨b, o, ra, rc, e, x1, x2, x3⟩ := h (k + i) (by omega)
    have eg : (l.drop k).getD i default = l.getD (k + i) default := by
      simp only [List.getD_eq_getElem?_getD, List.getElem?_drop]
    rw [eg]
    have ea : o + (k + i) * 2 = o + k * 2 + i * 2 := by omega
    rw [ea] at x1 x2
    refine ⟨b, o + k * 2, ra, rc, ?_, x1, x2, x3⟩
    rw [e, if_neg (by omega)]
    simp [Addr.add]

/-- the two parts, one behind the other -/
theorem atK_take (kv : KV) (l : List Chg) (k i : Nat) (h : i ≤ k) : atK kv (l.take k) i = atK kv l i := by
  unfold atK
  rw [List.take_take, Nat.min_eq_left h]
theorem atK_drop (kv : KV) (l : List Chg) (k i : Nat) : atK (atK kv l k) (l.drop k) i = atK kv l (k + i) := by
  unfold atK
  rw [List.take_add, List.foldl_append]
theorem getC_take (l : List Chg) (k i : Nat) (h : i < k) : (l.take k).getD i default = l.getD i default := by
  simp only [List.getD_eq_getElem?_getD, List.getElem?_take]; rw [if_pos h]
theorem getC_drop (l : List Chg) (k i : Nat) : (l.drop k).getD i default = l.getD (k + i) default := by
  simp only [List.getD_eq_getElem?_getD, List.getElem?_drop]
theorem errK_take (kv : KV) (l : List Chg) (k i : Nat) (h : i < k) : errK kv (l.take k) i = errK kv l i := by
  unfold errK
  rw [atK_take kv l k i (by omega), getC_take l k i h]
theorem errK_drop (kv : KV) (l : List Chg) (k i : Nat) : errK (atK kv l k) (l.drop k) i = errK kv l (k + i) := by
  unfold errK
  rw [atK_drop, getC_drop]
theorem form_drop {l : List Chg} {k : Nat} (h : formOk l) (hk : k ≤ l.length) (h1 : formOk (l.take k)) : formOk (l.drop k) := by
  refine ⟨by rw [List.length_drop]; have := h.1; omega, ?_⟩
  intro i hi
  rw [List.length_drop] at hi
  obtain ⟨q1, q2, q3, q4⟩ := h.2 (k + i) (by omega)
  refine ⟨by rw [getC_drop]; exact q1, by rw [getC_drop]; exact q2, by rw [getC_drop]; exact q3, ?_⟩
  unfold pairedAt at q4 ⊢
  rw [getC_drop, List.length_drop]
  by_cases c3 : (l.getD (k + i) default).k = 3
  · rw [if_pos c3] at q4 ⊢
    rw [getC_drop]
    simp only [Bool.and_eq_true, decide_eq_true_eq] at q4 ⊢
    exact ⟨by omega, q4.2⟩
  · rw [if_neg c3] at q4 ⊢
    by_cases c4 : (l.getD (k + i) default).k = 4
    · rw [if_pos c4] at q4 ⊢
      simp only [Bool.and_eq_true, decide_eq_true_eq] at q4 ⊢
      have hi0 : 0 < i := by
        rcases Nat.eq_zero_or_pos i with e | e
        · subst e
          exfalso
          have hk0 : 0 < k := by simpa using q4.1
          have hp := (h1.2 (k - 1) (by rw [List.length_take]; omega)).2.2.2
          unfold pairedAt at hp
          rw [getC_take l k (k - 1) (by omega), List.length_take] at hp
          have : (l.getD (k - 1) default).k = 3 := by have := q4.2; simpa using this
          rw [if_pos this] at hp
          simp only [Bool.and_eq_true, decide_eq_true_eq] at hp
          omega
        · exact e
      refine ⟨hi0, ?_⟩
      rw [getC_drop, show k + (i - 1) = k + i - 1 by omega]
      exact q4.2
    · rw [if_neg c4]
theorem wf_take {l : List Chg} (h : wfChgs l) (k : Nat) : wfChgs (l.take k) := fun c hc => h c (List.mem_of_mem_take hc)
theorem wf_drop {l : List Chg} (h : wfChgs l) (k : Nat) : wfChgs (l.drop k) := fun c hc => h c (List.mem_of_mem_drop hc)
end Go.Proofs.Ytkjiaeolodemlaf.ch

/- ChangeCuts answers true. -/
namespace Go.Proofs.Ytkjiaeolodemlaf.ch
open Go.ChangeShapes Go.WideShapes Go.ChangeAt Go.RowKit Go.Maps Go.WideMaps Go.Sort
open vl
set_option linter.unusedVariables false
set_option linter.unusedSimpArgs false

def foldYes (v : List Cnt) (l : List Chg) (out : List Cnt) (e : Ending) (w' : World) : Prop :=
  kvOf out = atK (kvOf v) l l.length ∧ viewOk out ∧ wfView out ∧ ∃ ad cap, e = .returned (.tuple #[.slice ad out.length cap, .int .i64 0, .int .i64 0]) ∧ viewAt w' ad out
theorem fold_split {v : List Cnt} {l : List Chg} {e : Ending} {w' : World} (h : foldRes v l e w') : (∃ p x, x ≠ 0 ∧ e = .returned (.tuple #[.slice none 0 0, .int .i64 p, .int .i64 x])) ∨ (viewErr v = 0 ∧ formErr l = 0 ∧ (∀ i, i < l.length → errK (kvOf v) l i = 0) ∧ ∃ out, foldYes v l out e w') := by
  rcases h with ⟨h1, h2⟩ | ⟨_, h1, h2⟩ | ⟨_, _, k, _, _, h1, h2⟩ | ⟨h1, h2, h3, out, ad, cap, h4, h5, h6, h7, h8⟩
  · exact .inl ⟨_, _, h1, h2⟩
  · exact .inl ⟨_, _, h1, h2⟩
  · exact .inl ⟨_, _, h1, h2⟩
  · exact .inr ⟨h1, h2, h3, out, h4, h5, h6, ad, cap, h7, h8⟩
theorem fold_yes {v : List Cnt} {l : List Chg} {e : Ending} {w' : World} (h : foldRes v l e w') (h1 : viewErr v = 0) (h2 : formErr l = 0) (h3 : ∀ i, i < l.length → errK (kvOf v) l i = 0) : ∃ out, foldYes v l out e w' := by
  rcases h with ⟨k1, _⟩ | ⟨_, k1, _⟩ | ⟨_, _, k, k2, _, k1, _⟩ | ⟨_, _, _, out, ad, cap, h4, h5, h6, h7, h8⟩
  · exact absurd h1 k1
  · exact absurd h2 k1
  · exact absurd (h3 k k2) k1
  · exact ⟨out, h4, h5, h6, ad, cap, h7, h8⟩
theorem view_len {v : List Cnt} (h : viewOk v) : v.length ≤ 9223372036854775807 := by have := h.1; omega

set_option maxRecDepth 10000 in
set_option maxHeartbeats 8000000 in
theorem cuts_walk (a : Option Addr) (ca : Nat) (v : List Cnt) (c : Option Addr) (cc : Nat) (l : List Chg) (cut : Int) (c1 : -9223372036854775808 ≤ cut) (c2 : cut ≤ 9223372036854775807) (w : World) (hv : viewAt w a v) (hc : chgsAt w c l) (hwv : wfView v) (hwl : wfChgs l) (hlv : v.length ≤ 9223372036854775807) (hll : l.length ≤ 9223372036854775807) (hcap : l.length ≤ cc) :
    Calls Try.prog 7 #[.slice a v.length ca, .slice c l.length cc, .int .i64 cut] w fun e w' => e = .returned (.bool true) ∧ Below w.heap.size w w' := by
  have K1 : Hid (∀ w1, Below w.heap.size w w1 → Calls Try.prog 17 #[.slice a v.length ca, .slice c l.length cc] w1 fun e w' => foldRes v l e w' ∧ Below w1.heap.size w1 w') := fun w1 hb => fold_any a c ca cc v l w1 (viewAt_below hv hb) hwv hlv (chgsAt_below hc hb) hwl hll
  have HV : Hid (viewAt w a v) := hv
  have HC : Hid (chgsAt w c l) := hc
  clear hv hc
  obtain ⟨m, hm⟩ : ∃ x, v.length = x := ⟨_, rfl⟩
  have HM : Hid (v.length = m) := hm
  obtain ⟨n, hn⟩ : ∃ x, l.length = x := ⟨_, rfl⟩
  have HN : Hid (l.length = n) := hn
  rw [hm, hn] at K1
  rw [hm] at hlv
  rw [hn] at hll hcap
  rw [hm, hn]
  clear hm hn
  obtain ⟨n1, hn1⟩ : ∃ x, IntKind.i64.wrap ((n : Int) + 1) = x := ⟨_, rfl⟩
  have hn2 : n1 = n + 1 ∨ (n = 9223372036854775807 ∧ n1 = -9223372036854775808) := by
    rw [wrap_is] at hn1; omega
  go_enter Try.func7, Try.ntmps7
  go_wp2_with fail
  refine (choose_any cut n1 n _ c1 c2 hn2 hll).mono ?_
  rintro e w0 ⟨⟨k, hk, rfl⟩, rfl⟩
  obtain ⟨a1, hs1, hfront⟩ := front_is c n cc k hk hcap
  obtain ⟨a2, cap2, hs2, hback⟩ := back_is c n cc k hk hcap
  have HFR : Hid (∀ (w : World) (l : List Chg), l.length = n → chgsAt w c l → chgsAt w a1 (l.take k)) := hfront
  have HBK : Hid (∀ (w : World) (l : List Chg), l.length = n → chgsAt w c l → chgsAt w a2 (l.drop k)) := hback
  have HTL : Hid ((l.take k).length = k) := by show (l.take k).length = k; rw [List.length_take, HN.out]; omega
  have HDL : Hid ((l.drop k).length = n - k) := by show (l.drop k).length = n - k; rw [List.length_drop, HN.out]
  clear hfront hback hn2 hn1
  go_wp2_with fail
  refine (K1.out _ (Below.refl _ _)).mono ?_
  rintro e w1 ⟨hres, hb1⟩
  rcases fold_split hres with ⟨p, x, hx, rfl⟩ | ⟨hve, hfe, hall, out0, hk0, ho0, hw0, ad0, cap0, rfl, hv0⟩
  · have hx1 : (x == 0) = false := by simpa using hx
    have hx2 : (x != 0) = true := by simpa using hx
    clear hx hres
    go_wp2_with fail
    refine (cbegun_any _).mono ?_
    rintro e w2 ⟨rfl, hb2⟩
    go_wp2
    go_ret
    exact ⟨rfl, hb1.trans (hb2.mono hb1.size)⟩
  · have HVE : Hid (viewErr v = 0) := hve
    have HFE : Hid (formErr l = 0) := hfe
    have HALL : Hid (∀ i, i < l.length → errK (kvOf v) l i = 0) := hall
    have HK0 : Hid (kvOf out0 = atK (kvOf v) l l.length) := hk0
    have HO0 : Hid (viewOk out0) := ho0
    have HW0 : Hid (wfView out0) := hw0
    have HV0 : Hid (viewAt w1 ad0 out0) := hv0
    clear hve hfe hall hk0 ho0 hw0 hv0 hres
    have KF : Hid (Calls Try.prog 20 #[.slice a1 k cc] w1 fun e w' => e = .returned (.int .i64 (formErr (l.take k))) ∧ Below w1.heap.size w1 w') := by
      have h := form_any a1 cc (l.take k) w1 (HFR.out w1 l HN.out (chgsAt_below HC.out hb1)) (wf_take hwl k) (by rw [HTL.out]; omega)
      rw [HTL.out] at h; exact h
    obtain ⟨x, hx⟩ : ∃ x, formErr (l.take k) = x := ⟨_, rfl⟩
    have HX : Hid (formErr (l.take k) = x) := hx
    rw [hx] at KF
    clear hx
    obtain ⟨o0, ho0⟩ : ∃ x, out0.length = x := ⟨_, rfl⟩
    have HOL : Hid (out0.length = o0) := ho0
    rw [ho0]
    clear ho0
    by_cases hx : x = 0
    · subst hx
      have HF1 : Hid (formOk (l.take k)) := form_ok HX.out
      have HF2 : Hid (formErr (l.drop k) = 0) := ok_form (form_drop (form_ok HFE.out) (by rw [HN.out]; exact hk) HF1.out)
      go_wp2_with fail
      refine KF.out.mono ?_
      rintro e w2 ⟨rfl, hb2⟩
      have h2 := hb1.trans (hb2.mono hb1.size)
      have HV2 : Hid (viewAt w2 ad0 out0) := viewAt_below HV0.out hb2
      have KA : Hid (Calls Try.prog 17 #[.slice a m ca, .slice a1 k cc] w2 fun e w' => foldRes v (l.take k) e w' ∧ Below w2.heap.size w2 w') := by
        have h := fold_any a a1 ca cc v (l.take k) w2 (viewAt_below HV.out h2) hwv (by rw [HM.out]; exact hlv) (HFR.out w2 l HN.out (chgsAt_below HC.out h2)) (wf_take hwl k) (by rw [HTL.out]; omega)
        rw [HM.out, HTL.out] at h; exact h
      clear KF HV0 hb2 hb1
      go_wp2_with fail
      refine KA.out.mono ?_
      rintro e w3 ⟨hres, hb3⟩
      obtain ⟨out1, hk1, ho1, hw1, ad1, cap1, rfl, hv1⟩ := fold_yes hres HVE.out HX.out (fun i hi => by rw [HTL.out] at hi; rw [errK_take _ _ _ _ hi]; exact HALL.out i (by rw [HN.out]; omega))
      have HK1 : Hid (kvOf out1 = atK (kvOf v) l k) := by
        show kvOf out1 = atK (kvOf v) l k
        rw [hk1, HTL.out, atK_take _ _ _ _ (Nat.le_refl _)]
      have HO1 : Hid (viewOk out1) := ho1
      have h3 := h2.trans (hb3.mono h2.size)
      have HV3 : Hid (viewAt w3 ad0 out0) := viewAt_below HV2.out hb3
      have KB : Hid (Calls Try.prog 17 #[.slice ad1 out1.length cap1, .slice a2 (n - k) cap2] w3 fun e w' => foldRes out1 (l.drop k) e w' ∧ Below w3.heap.size w3 w') := by
        have h := fold_any ad1 a2 cap1 cap2 out1 (l.drop k) w3 hv1 hw1 (view_len ho1) (HBK.out w3 l HN.out (chgsAt_below HC.out h3)) (wf_drop hwl k) (by rw [HDL.out]; omega)
        rw [HDL.out] at h; exact h
      clear KA HV2 hb3 h2 hres hk1 ho1 hw1 hv1
      obtain ⟨o1, ho1⟩ : ∃ x, out1.length = x := ⟨_, rfl⟩
      rw [ho1] at KB
      rw [ho1]
      clear ho1
      go_wp2_with fail
      refine KB.out.mono ?_
      rintro e w4 ⟨hres, hb4⟩
      obtain ⟨out2, hk2, ho2, hw2, ad2, cap2, rfl, hv2⟩ := fold_yes hres (viewErr_ok HO1.out) HF2.out (fun i hi => by rw [HDL.out] at hi; rw [HK1.out, errK_drop]; exact HALL.out (k + i) (by rw [HN.out]; omega))
      have HE : Hid (out2 = out0) := kvOf_inj (view_rows hw2 ho2) (view_rows HW0.out HO0.out) (by
        rw [hk2, HK1.out, HDL.out, atK_drop, HK0.out, HN.out, show k + (n - k) = n by omega])
      have h4 := h3.trans (hb4.mono h3.size)
      have HV4 : Hid (viewAt w4 ad0 out0) := viewAt_below HV3.out hb4
      have HV5 : Hid (viewAt w4 ad2 out0) := by show viewAt w4 ad2 out0; rw [← HE.out]; exact hv2
      rw [HE.out, HOL.out]
      clear hres hk2 ho2 hw2 hv2 hb4 h3 KB
      go_wp2_with fail
      refine (cbegun_any _).mono ?_
      rintro e w5 ⟨rfl, hb5⟩
      have h5 := h4.trans (hb5.mono h4.size)
      have KS : Hid (Calls Try.prog 18 #[.slice ad2 o0 cap2, .slice ad0 o0 cap0] w5 fun e w' => e = .returned (.bool true) ∧ Below w5.heap.size w5 w') := by
        have h := sameViews_any ad2 ad0 cap2 cap0 out0 out0 w5 (viewAt_below HV5.out hb5) (viewAt_below HV4.out hb5) HW0.out HW0.out (view_len HO0.out) (view_len HO0.out)
        rw [HOL.out, decide_eq_true rfl] at h; exact h
      go_wp2_with (go_at_call 18; refine KS.out.mono ?_; rintro e w6 ⟨rfl, hb6⟩)
      go_ret
      exact ⟨rfl, h5.trans (hb6.mono h5.size)⟩
    · have hx1 : (x == 0) = false := by simpa using hx
      have hx2 : (x != 0) = true := by simpa using hx
      go_wp2_with fail
      refine KF.out.mono ?_
      rintro e w2 ⟨rfl, hb2⟩
      have h2 := hb1.trans (hb2.mono hb1.size)
      go_wp2_with fail
      refine (cbegun_any _).mono ?_
      rintro e w3 ⟨rfl, hb3⟩
      go_wp2
      go_ret
      exact ⟨rfl, h2.trans (hb3.mono h2.size)⟩
end Go.Proofs.Ytkjiaeolodemlaf.ch

/- Counts as functions of keys: what add does to them, and that good counts are what they tell of each key. -/
namespace Go.Proofs.Ytkjiaeolodemlaf.ch
open Go.ChangeShapes Go.WideShapes Go.ChangeAt Go.RowKit Go.Maps Go.WideMaps
open vl
set_option linter.unusedVariables false
set_option linter.unusedSimpArgs false

theorem getK_cons (p : List UInt8 × Int) (r : KV) (k : List UInt8) : getK (p :: r) k = if p.1 = k then p.2 else getK r k := by
  unfold getK
  by_cases h : p.1 = k
  · rw [if_pos h, List.find?_cons_of_pos (by simpa using h)]
  · rw [if_neg h, List.find?_cons_of_neg (by simpa using h)]
theorem getK_ins (x : List UInt8 × Int) (l : KV) (k : List UInt8) (h : ∀ p ∈ l, p.1 ≠ x.1) : getK (insK x l) k = if x.1 = k then x.2 else getK l k := by
  induction l with
  | nil => rw [insK, getK_cons]
  | cons y r ih =>
    rw [insK]
    split
    · rw [getK_cons]
    · rw [getK_cons, ih (fun p hp => h p (List.mem_cons_of_mem _ hp)), getK_cons]
      have hy := h y (List.mem_cons_self ..)
      by_cases e1 : y.1 = k
      · rw [if_pos e1, if_pos e1, if_neg (fun e => hy (e1.trans e.symm))]
      · rw [if_neg e1, if_neg e1]
theorem getK_del (l : KV) (k k' : List UInt8) : getK (delK l k) k' = if k' = k then 0 else getK l k' := by
  by_cases h : k' = k
  · rw [if_pos h]
    exact getK_none (fun p hp => by rw [h]; exact (mem_del.1 hp).2)
  · rw [if_neg h]
    induction l with
    | nil => rfl
    | cons y r ih =>
      unfold delK at ih ⊢
      by_cases e : y.1 = k
      · rw [List.filter_cons_of_neg (by simpa using e), ih, getK_cons, if_neg (fun e2 => h (e2.symm.trans e))]
      · rw [List.filter_cons_of_pos (by simpa using e), getK_cons, ih, getK_cons]
theorem getK_put (l : KV) (k k' : List UInt8) (n : Int) : getK (putK l k n) k' = if k' = k then n else getK l k' := by
  unfold putK
  rw [getK_ins _ _ _ (fun p hp => (mem_del.1 hp).2), getK_del]
  by_cases h : k' = k
  · subst h; rw [if_pos rfl, if_pos rfl]
  · rw [if_neg (fun e => h e.symm), if_neg h, if_neg h]

theorem addE_zero {kv : KV} {k : List UInt8} {d : Int} : addE kv k d = 0 ↔ 0 ≤ getK kv k + d ∧ getK kv k + d ≤ 1073741824 ∧ (getK kv k + d = 0 ∨ getK kv k ≠ 0 ∨ kv.length ≠ 4096) := by
  unfold addE
  constructor
  · intro h
    split at h
    · cases h
    · split at h
      · cases h
      · split at h
        · exact ⟨by omega, by omega, .inl ‹_›⟩
        · split at h
          · cases h
          · rename_i h4
            refine ⟨by omega, by omega, ?_⟩
            by_cases e : getK kv k = 0
            · exact .inr (.inr (fun e2 => h4 ⟨e, e2⟩))
            · exact .inr (.inl e)
  · rintro ⟨h1, h2, h3⟩
    rw [if_neg (by omega), if_neg (by omega)]
    split
    · rfl
    · rename_i h4
      rw [if_neg]
      rintro ⟨e1, e2⟩
      rcases h3 with h | h | h
      · exact h4 h
      · exact h e1
      · exact h e2
theorem addV_get {kv : KV} {k : List UInt8} {d : Int} (h : addE kv k d = 0) (k' : List UInt8) : getK (addV kv k d) k' = getK kv k' + if k' = k then d else 0 := by
  obtain ⟨h1, h2, h3⟩ := addE_zero.1 h
  unfold addV
  rw [if_neg (by omega), if_neg (by omega)]
  split
  · rename_i h4
    rw [getK_del]
    by_cases e : k' = k
    · rw [if_pos e, if_pos e, e]; omega
    · rw [if_neg e, if_neg e]; omega
  · rename_i h4
    rw [if_neg]
    · rw [getK_put]
      by_cases e : k' = k
      · rw [if_pos e, if_pos e, e]
      · rw [if_neg e, if_neg e]; omega
    · rintro ⟨e1, e2⟩
      rcases h3 with h | h | h
      · exact h4 h
      · exact h e1
      · exact h e2

theorem getK_low {p : List UInt8 × Int} {r : KV} {k : List UInt8} (h : rising (p :: r)) (hk : bytesBefore k p.1 = true) : getK (p :: r) k = 0 := by
  refine getK_none ?_
  have h1 := List.pairwise_cons.1 h
  intro q hq e
  rw [← e] at hk
  rcases List.mem_cons.1 hq with e2 | hq
  · rw [e2, before_irrefl] at hk; cases hk
  · have := before_trans hk (h1.1 q hq)
    rw [before_irrefl] at this; cases this
theorem getK_tail {p : List UInt8 × Int} {r : KV} (h : rising (p :: r)) : getK r p.1 = 0 := by
  refine getK_none ?_
  intro q hq e
  have := (List.pairwise_cons.1 h).1 q hq
  rw [e, before_irrefl] at this; cases this
/-- counts that tell the same of each key are the same -/
theorem kv_ext {a b : KV} (ha : rising a) (hb : rising b) (na : ∀ p ∈ a, p.2 ≠ 0) (nb : ∀ p ∈ b, p.2 ≠ 0) (h : ∀ k, getK a k = getK b k) : a = b := by
  induction a generalizing b with
  | nil => cases b with
    | nil => rfl
    | cons q s =>
      have := h q.1
      rw [getK_of hb (List.mem_cons_self ..)] at this
      exact absurd this.symm (nb q (List.mem_cons_self ..))
  | cons p r ih => cases b with
    | nil =>
      have := h p.1
      rw [getK_of ha (List.mem_cons_self ..)] at this
      exact absurd this (na p (List.mem_cons_self ..))
    | cons q s =>
      have hp := getK_of ha (List.mem_cons_self (a := p) (l := r))
      have hq := getK_of hb (List.mem_cons_self (a := q) (l := s))
      have e : p.1 = q.1 := by
        refine Classical.byContradiction fun hne => ?_
        cases hpq : bytesBefore p.1 q.1 with
        | true =>
          have := getK_low hb hpq
          rw [← h, hp] at this
          exact na p (List.mem_cons_self ..) this
        | false =>
          have := getK_low ha (before_total _ _ hpq hne)
          rw [h, hq] at this
          exact nb q (List.mem_cons_self ..) this
      have e2 : p.2 = q.2 := by rw [← hp, ← hq, h, e]
      have hpe : p = q := Prod.ext e e2
      subst hpe
      rw [ih (List.pairwise_cons.1 ha).2 (List.pairwise_cons.1 hb).2 (fun x hx => na x (List.mem_cons_of_mem _ hx)) (fun x hx => nb x (List.mem_cons_of_mem _ hx)) (fun k => by
        have := h k
        rw [getK_cons, getK_cons] at this
        by_cases e : p.1 = k
        · rw [← e, getK_tail ha, getK_tail hb]
        · rwa [if_neg e, if_neg e] at this)]
theorem good_ext {a b : KV} (ha : good a) (hb : good b) (h : ∀ k, getK a k = getK b k) : a = b :=
  kv_ext ha.up hb.up (fun p hp => by have := ha.cnt p hp; omega) (fun p hp => by have := hb.cnt p hp; omega) h
/-- where one's keys are another's, it is no longer -/
theorem len_sub {a b : KV} (ha : rising a) (h : ∀ p ∈ a, ∃ q ∈ b, q.1 = p.1) : a.length ≤ b.length := by
  induction a generalizing b with
  | nil => exact Nat.zero_le _
  | cons p r ih =>
    have h1 := List.pairwise_cons.1 ha
    have h2 := ih (b := delK b p.1) h1.2 (fun q hq => by
      obtain ⟨x, hx, e⟩ := h q (List.mem_cons_of_mem _ hq)
      refine ⟨x, mem_del.2 ⟨hx, fun e2 => ?_⟩, e⟩
      have := h1.1 q hq
      rw [← e, e2, before_irrefl] at this; cases this)
    have h3 : (delK b p.1).length < b.length := by
      obtain ⟨x, hx, e⟩ := h p (List.mem_cons_self ..)
      unfold delK
      rw [List.length_filter_lt_length_iff_exists]
      exact ⟨x, hx, by simp [e]⟩
    rw [List.length_cons]; omega
theorem mem_of_pos {kv : KV} {k : List UInt8} (h : getK kv k ≠ 0) : ∃ q ∈ kv, q.1 = k := ⟨_, getK_mem h, rfl⟩

/-- how much changes move a key's count -/
def sumK : List Chg → List UInt8 → Int
  | [], _ => 0
  | c :: l, k => (if k = encR c.r then moreOf c.k else 0) + sumK l k
theorem sumK_app (l m : List Chg) (k : List UInt8) : sumK (l ++ m) k = sumK l k + sumK m k := by
  induction l with
  | nil => simp [sumK]
  | cons c r ih => rw [List.cons_append, sumK, ih, sumK]; omega
theorem sumK_one (c : Chg) (k : List UInt8) : sumK [c] k = if k = encR c.r then moreOf c.k else 0 := by simp [sumK]
theorem at_get {kv : KV} {l : List Chg} (i : Nat) (hi : i ≤ l.length) (h : ∀ j, j < i → errK kv l j = 0) (k : List UInt8) : getK (atK kv l i) k = getK kv k + sumK (l.take i) k := by
  induction i with
  | zero => simp [atK, sumK]
  | succ i ih =>
    rw [atK_succ kv l i (by omega), addV_get (h i (by omega)), ih (by omega) (fun j hj => h j (by omega)), takeC l i (by omega), sumK_app, sumK_one]
    omega
theorem net_get_sum (l : List Chg) (k : List UInt8) : getK (netK l) k = sumK l k := by
  suffices h : ∀ i, i ≤ l.length → getK (netK (l.take i)) k = sumK (l.take i) k by
    have := h l.length (Nat.le_refl _)
    rwa [List.take_length] at this
  intro i
  induction i with
  | zero => intro _; rfl
  | succ i ih =>
    intro hi
    rw [net_succ l i (by omega), getK_put, takeC l i (by omega), sumK_app, sumK_one]
    have := ih (by omega)
    by_cases e : k = encR (l.getD i default).r
    · rw [if_pos e, if_pos e, ← e, this]
    · rw [if_neg e, if_neg e, this]; omega
/-- how many changes are of a key -/
def cntK (l : List Chg) (k : List UInt8) : Nat := (l.filter fun c => encR c.r == k).length
theorem cntK_app (l m : List Chg) (k : List UInt8) : cntK (l ++ m) k = cntK l k + cntK m k := by unfold cntK; rw [List.filter_append, List.length_append]
theorem cntK_take (l : List Chg) (i : Nat) (k : List UInt8) : cntK (l.take i) k ≤ cntK l k := by
  have := cntK_app (l.take i) (l.drop i) k
  rw [List.take_append_drop] at this
  omega
theorem cntK_rep (m : Nat) (x : Int) (r : List Cel) (k : List UInt8) : cntK (List.replicate m ⟨x, r⟩) k = if encR r = k then m else 0 := by
  unfold cntK
  by_cases e : encR r = k
  · rw [if_pos e, List.filter_replicate_of_pos (by simpa using e), List.length_replicate]
  · rw [if_neg e, List.filter_replicate_of_neg (by simpa using e)]; rfl
theorem cntK_dels {out : List Cnt} (hr : rising (kvOf out)) (k : List UInt8) : cntK (dels out) k = (-(getK (kvOf out) k)).toNat := by
  induction out with
  | nil => rfl
  | cons c r ih =>
    have hr' : rising ((encR c.r, c.n) :: kvOf r) := hr
    have e : dels (c :: r) = List.replicate (-c.n).toNat ⟨2, c.r⟩ ++ dels r := rfl
    have e2 : kvOf (c :: r) = (encR c.r, c.n) :: kvOf r := rfl
    rw [e, cntK_app, cntK_rep, ih (List.pairwise_cons.1 hr').2, e2, getK_cons]
    by_cases h : encR c.r = k
    · have := getK_tail hr'
      dsimp only at this
      rw [if_pos h, if_pos h, ← h, this]; simp
    · rw [if_neg h, if_neg h]; omega
theorem cntK_inss {out : List Cnt} (hr : rising (kvOf out)) (k : List UInt8) : cntK (inss out) k = (getK (kvOf out) k).toNat := by
  induction out with
  | nil => rfl
  | cons c r ih =>
    have hr' : rising ((encR c.r, c.n) :: kvOf r) := hr
    have e : inss (c :: r) = List.replicate c.n.toNat ⟨1, c.r⟩ ++ inss r := rfl
    have e2 : kvOf (c :: r) = (encR c.r, c.n) :: kvOf r := rfl
    rw [e, cntK_app, cntK_rep, ih (List.pairwise_cons.1 hr').2, e2, getK_cons]
    by_cases h : encR c.r = k
    · have := getK_tail hr'
      dsimp only at this
      rw [if_pos h, if_pos h, ← h, this]; simp
    · rw [if_neg h, if_neg h]; omega
theorem sum_dels {l : List Chg} (h : ∀ c ∈ l, c.k = 2) (k : List UInt8) : sumK l k = -(cntK l k : Int) := by
  induction l with
  | nil => rfl
  | cons c r ih =>
    have hm : moreOf c.k = -1 := by rw [h c (List.mem_cons_self ..)]; decide
    rw [sumK, ih (fun x hx => h x (List.mem_cons_of_mem _ hx)), hm]
    unfold cntK
    by_cases e : k = encR c.r
    · rw [if_pos e, List.filter_cons_of_pos (by simpa using e.symm), List.length_cons]; omega
    · rw [if_neg e, List.filter_cons_of_neg (by simpa using fun h : encR c.r = k => e h.symm)]; omega
theorem sum_inss {l : List Chg} (h : ∀ c ∈ l, c.k = 1) (k : List UInt8) : sumK l k = (cntK l k : Int) := by
  induction l with
  | nil => rfl
  | cons c r ih =>
    have hm : moreOf c.k = 1 := by rw [h c (List.mem_cons_self ..)]; decide
    rw [sumK, ih (fun x hx => h x (List.mem_cons_of_mem _ hx)), hm]
    unfold cntK
    by_cases e : k = encR c.r
    · rw [if_pos e, List.filter_cons_of_pos (by simpa using e.symm), List.length_cons]; omega
    · rw [if_neg e, List.filter_cons_of_neg (by simpa using fun h : encR c.r = k => e h.symm)]; omega
theorem dels_mem {out : List Cnt} {c : Chg} (h : c ∈ dels out) : c.k = 2 ∧ ∃ d ∈ out, c.r = d.r ∧ d.n < 0 := by
  obtain ⟨d, hd, hc⟩ := List.mem_flatMap.1 h
  obtain ⟨h1, h2⟩ := List.mem_replicate.1 hc
  subst h2
  exact ⟨rfl, d, hd, rfl, by omega⟩
theorem inss_mem {out : List Cnt} {c : Chg} (h : c ∈ inss out) : c.k = 1 ∧ ∃ d ∈ out, c.r = d.r ∧ 0 < d.n := by
  obtain ⟨d, hd, hc⟩ := List.mem_flatMap.1 h
  obtain ⟨h1, h2⟩ := List.mem_replicate.1 hc
  subst h2
  exact ⟨rfl, d, hd, rfl, by omega⟩
/-- what a front of the made changes moves -/
theorem sum_front {out : List Cnt} (hr : rising (kvOf out)) (i : Nat) (k : List UInt8) :
    (i ≤ (dels out).length → sumK ((dels out ++ inss out).take i) k ≤ 0 ∧ (getK (kvOf out) k ≤ sumK ((dels out ++ inss out).take i) k ∨ 0 ≤ sumK ((dels out ++ inss out).take i) k)) ∧
    ((dels out).length ≤ i → sumK ((dels out ++ inss out).take i) k ≤ getK (kvOf out) k ∧ (sumK ((dels out ++ inss out).take i) k = getK (kvOf out) k ∨ 0 ≤ sumK ((dels out ++ inss out).take i) k)) := by
  constructor
  · intro hi
    rw [List.take_append_of_le_length hi, sum_dels (fun c hc => (dels_mem (List.mem_of_mem_take hc)).1)]
    have := cntK_take (dels out) i k
    rw [cntK_dels hr] at this
    omega
  · intro hi
    rw [List.take_append, List.take_of_length_le hi, sumK_app, sum_dels (fun c hc => (dels_mem hc).1), sum_inss (fun c hc => (inss_mem (List.mem_of_mem_take hc)).1), cntK_dels hr]
    have := cntK_take (inss out) (i - (dels out).length) k
    rw [cntK_inss hr] at this
    omega
theorem sum_all {out : List Cnt} (hr : rising (kvOf out)) (k : List UInt8) : sumK (dels out ++ inss out) k = getK (kvOf out) k := by
  rw [sumK_app, sum_dels (fun c hc => (dels_mem hc).1), sum_inss (fun c hc => (inss_mem hc).1), cntK_dels hr, cntK_inss hr]
  omega
end Go.Proofs.Ytkjiaeolodemlaf.ch

/- Changes that were made can be done, and make what they should; changes that were done can be undone. -/
namespace Go.Proofs.Ytkjiaeolodemlaf.ch
open Go.ChangeShapes Go.WideShapes Go.ChangeAt Go.RowKit Go.Maps Go.WideMaps
open vl
set_option linter.unusedVariables false
set_option linter.unusedSimpArgs false

def madeL (out : List Cnt) : List Chg := dels out ++ inss out
theorem made_mem {out : List Cnt} {c : Chg} (h : c ∈ madeL out) : (c.k = 1 ∨ c.k = 2) ∧ ∃ d ∈ out, c.r = d.r := by
  rcases List.mem_append.1 h with h | h
  · obtain ⟨h1, d, h2, h3, _⟩ := dels_mem h
    exact ⟨.inr h1, d, h2, h3⟩
  · obtain ⟨h1, d, h2, h3, _⟩ := inss_mem h
    exact ⟨.inl h1, d, h2, h3⟩
theorem made_form {out : List Cnt} (hok : ∀ c ∈ out, rowOk c.r) (hl : (madeL out).length ≤ 4096) : formOk (madeL out) ∧ wfChgs (madeL out) := by
  have hrow : ∀ c ∈ madeL out, rowOk c.r := fun c hc => by
    obtain ⟨_, d, hd, e⟩ := made_mem hc
    rw [e]; exact hok d hd
  refine ⟨⟨hl, ?_⟩, ?_⟩
  · intro i hi
    have hm := mem_getD hi
    have hk := (made_mem hm).1
    refine ⟨by omega, by omega, keyErr_ok (hrow _ hm), ?_⟩
    unfold pairedAt
    rw [if_neg (by omega), if_neg (by omega)]
  · intro c hc
    have h1 := (made_mem hc).1
    have h2 := (hrow c hc).1
    exact ⟨rowOk_wf (hrow c hc), by omega, by omega, by omega⟩
theorem sum_step (l : List Chg) (i : Nat) (h : i < l.length) (k : List UInt8) : sumK (l.take (i + 1)) k = sumK (l.take i) k + if k = encR (l.getD i default).r then moreOf (l.getD i default).k else 0 := by
  rw [takeC l i h, sumK_app, sumK_one]
theorem made_err {kv kvF : KV} {out : List Cnt} (hg : good kv) (hf : good kvF) (hr : rising (kvOf out)) (hok : ∀ c ∈ out, rowOk c.r) (hl : (madeL out).length ≤ 4096) (hsum : ∀ k, getK kvF k = getK kv k + getK (kvOf out) k) :
    ∀ i, i ≤ (madeL out).length → ∀ j, j < i → errK kv (madeL out) j = 0 := by
  obtain ⟨hfo, hwf⟩ := made_form hok hl
  intro i
  induction i with
  | zero => intro _ j hj; exact absurd hj (Nat.not_lt_zero j)
  | succ i ih =>
    intro hi j hj
    have hprev := ih (by omega)
    by_cases hji : j < i
    · exact hprev j hji
    · have hje : j = i := by omega
      subst hje
      have hgi : good (atK kv (madeL out) j) := good_at hg hwf hfo j (by omega)
      have hget := at_get (kv := kv) (l := madeL out) j (by omega) hprev
      have hst := sum_step (madeL out) j (by omega)
      have hfr := fun k => sum_front hr j k
      have hfr1 := fun k => sum_front hr (j + 1) k
      have hmk : ∀ i, (dels out ++ inss out).take i = (madeL out).take i := fun _ => rfl
      simp only [hmk] at hfr hfr1
      unfold errK
      rw [addE_zero]
      have hm := mem_getD (l := madeL out) (i := j) (by omega)
      obtain ⟨key, hkey⟩ : ∃ x, encR ((madeL out).getD j default).r = x := ⟨_, rfl⟩
      have hst1 := hst key
      rw [hkey, if_pos rfl] at hst1
      rw [hkey, hget key]
      have h1 := good_get hg key
      have h2 := good_get hf key
      have h3 := hsum key
      by_cases hd : j < (dels out).length
      · have hc : ((madeL out).getD j default).k = 2 := by
          have : (madeL out).getD j default ∈ dels out := by
            unfold madeL
            rw [List.getD_eq_getElem?_getD, List.getElem?_append_left hd, ← List.getD_eq_getElem?_getD]
            exact mem_getD hd
          exact (dels_mem this).1
        have hmo : moreOf ((madeL out).getD j default).k = -1 := by rw [hc]; decide
        rw [hmo] at hst1 ⊢
        have h4 := (hfr1 key).1 (by omega)
        refine ⟨by omega, by omega, .inr (.inl ?_)⟩
        omega
      · have hc : ((madeL out).getD j default).k = 1 := by
          have : (madeL out).getD j default ∈ inss out := by
            unfold madeL at hi ⊢
            rw [List.length_append] at hi
            rw [List.getD_eq_getElem?_getD, List.getElem?_append_right (by omega), ← List.getD_eq_getElem?_getD]
            exact mem_getD (by omega)
          exact (inss_mem this).1
        have hmo : moreOf ((madeL out).getD j default).k = 1 := by rw [hc]; decide
        rw [hmo] at hst1 ⊢
        have h4 := (hfr1 key).2 (by omega)
        refine ⟨by omega, by omega, ?_⟩
        by_cases e0 : getK kv key + sumK ((madeL out).take j) key = 0
        · right; right
          have hne : getK kvF key ≠ 0 := by omega
          have hlt := len_del_lt hne
          have hsub : (atK kv (madeL out) j).length ≤ (delK kvF key).length := len_sub hgi.up (fun p hp => by
            have q1 := hgi.cnt p hp
            have q2 := getK_of hgi.up hp
            have q3 := (hfr p.1).2 (by omega)
            rw [hget] at q2
            have q4 := hsum p.1
            obtain ⟨q, hq, e⟩ := mem_of_pos (kv := kvF) (k := p.1) (by omega)
            refine ⟨q, mem_del.2 ⟨hq, ?_⟩, e⟩
            rw [e]
            intro e2
            rw [e2] at q2
            omega)
          have := hf.len
          omega
        · exact .inr (.inl e0)
theorem made_play {kv kvF : KV} {out : List Cnt} (hg : good kv) (hf : good kvF) (hr : rising (kvOf out)) (hok : ∀ c ∈ out, rowOk c.r) (hl : (madeL out).length ≤ 4096) (hsum : ∀ k, getK kvF k = getK kv k + getK (kvOf out) k) :
    (∀ i, i < (madeL out).length → errK kv (madeL out) i = 0) ∧ atK kv (madeL out) (madeL out).length = kvF := by
  have herr := made_err hg hf hr hok hl hsum (madeL out).length (Nat.le_refl _)
  refine ⟨herr, ?_⟩
  obtain ⟨hfo, hwf⟩ := made_form hok hl
  refine good_ext (good_at hg hwf hfo _ (Nat.le_refl _)) hf (fun k => ?_)
  rw [at_get _ (Nat.le_refl _) herr, List.take_length, hsum]
  have := sum_all hr k
  unfold madeL
  omega

/-- what all counts come to -/
def sumAbs : KV → Nat
  | [] => 0
  | p :: r => p.2.natAbs + sumAbs r
theorem sumAbs_ins (x : List UInt8 × Int) (l : KV) : sumAbs (insK x l) = x.2.natAbs + sumAbs l := by
  induction l with
  | nil => rfl
  | cons y r ih =>
    rw [insK]
    split
    · rfl
    · rw [sumAbs, ih, sumAbs]; omega
theorem del_none {kv : KV} {k : List UInt8} (h : ∀ p ∈ kv, p.1 ≠ k) : delK kv k = kv := by
  unfold delK
  rw [List.filter_eq_self]
  intro p hp
  simpa using h p hp
theorem sumAbs_del {kv : KV} (hr : rising kv) (k : List UInt8) : sumAbs kv = (getK kv k).natAbs + sumAbs (delK kv k) := by
  induction kv with
  | nil => rfl
  | cons p r ih =>
    have h1 := List.pairwise_cons.1 hr
    by_cases e : p.1 = k
    · have hn : ∀ q ∈ r, q.1 ≠ k := fun q hq e2 => by
        have := h1.1 q hq
        rw [e2, e, before_irrefl] at this; cases this
      have : delK (p :: r) k = r := by
        have h2 := del_none hn
        unfold delK at h2 ⊢
        rw [List.filter_cons_of_neg (by simpa using e)]
        exact h2
      rw [this, getK_cons, if_pos e, sumAbs]
    · have : delK (p :: r) k = p :: delK r k := by
        unfold delK
        rw [List.filter_cons_of_pos (by simpa using e)]
      rw [this, getK_cons, if_neg e, sumAbs, sumAbs, ih h1.2]; omega
theorem sumAbs_put {kv : KV} (hr : rising kv) (k : List UInt8) (d : Int) : sumAbs (putK kv k (getK kv k + d)) ≤ sumAbs kv + d.natAbs := by
  unfold putK
  rw [sumAbs_ins, sumAbs_del hr k]
  dsimp only
  omega
theorem sumAbs_net {l : List Chg} (hw : wfChgs l) (hf : formOk l) : sumAbs (netK l) ≤ l.length := by
  suffices h : ∀ i, i ≤ l.length → sumAbs (netK (l.take i)) ≤ i by
    have := h l.length (Nat.le_refl _)
    rwa [List.take_length] at this
  intro i
  induction i with
  | zero => intro _; exact Nat.le_refl _
  | succ i ih =>
    intro hi
    rw [net_succ l i (by omega)]
    have h1 := sumAbs_put (net_at hw hf i (by omega)).up (encR (l.getD i default).r) (moreOf (l.getD i default).k)
    have h2 := ih (by omega)
    have h3 := more_le (l.getD i default).k
    omega
theorem made_len (out : List Cnt) : (madeL out).length = sumAbs (kvOf out) := by
  induction out with
  | nil => rfl
  | cons c r ih =>
    have e1 : dels (c :: r) = List.replicate (-c.n).toNat ⟨2, c.r⟩ ++ dels r := rfl
    have e2 : inss (c :: r) = List.replicate c.n.toNat ⟨1, c.r⟩ ++ inss r := rfl
    have e3 : kvOf (c :: r) = (encR c.r, c.n) :: kvOf r := rfl
    unfold madeL at ih ⊢
    rw [List.length_append] at ih ⊢
    rw [e1, e2, e3, sumAbs, List.length_append, List.length_append, List.length_replicate, List.length_replicate]
    dsimp only
    omega

/-- backwards -/
def turnOf (k : Int) : Int := if k = 1 then 2 else if k = 2 then 1 else if k = 3 then 4 else 3
theorem turn_more {k : Int} (h1 : 1 ≤ k) (h2 : k ≤ 4) : moreOf (turnOf k) = -(moreOf k) := by
  unfold turnOf moreOf
  split
  · subst_vars; decide
  · split
    · subst_vars; decide
    · split
      · subst_vars; decide
      · have : k = 4 := by omega
        subst this; decide
def backL (l : List Chg) : List Chg := l.reverse.map fun c => ⟨turnOf c.k, c.r⟩
theorem backL_len (l : List Chg) : (backL l).length = l.length := by simp [backL]
theorem backL_at (l : List Chg) (i : Nat) (h : i < l.length) : (backL l).getD i default = ⟨turnOf (l.getD (l.length - 1 - i) default).k, (l.getD (l.length - 1 - i) default).r⟩ := by
  unfold backL
  rw [List.getD_eq_getElem?_getD, List.getElem?_map, List.getElem?_reverse h, List.getElem?_eq_getElem (by omega), List.getD_eq_getElem?_getD, List.getElem?_eq_getElem (by omega)]
  rfl
theorem back_form {l : List Chg} (hf : formOk l) (hw : wfChgs l) : formOk (backL l) ∧ wfChgs (backL l) := by
  have hall : ∀ c ∈ backL l, ∃ d ∈ l, c = ⟨turnOf d.k, d.r⟩ := fun c hc => by
    obtain ⟨d, hd, e⟩ := List.mem_map.1 hc
    exact ⟨d, List.mem_reverse.1 hd, e.symm⟩
  have htu : ∀ k : Int, 1 ≤ k → k ≤ 4 → 1 ≤ turnOf k ∧ turnOf k ≤ 4 := fun k _ _ => by unfold turnOf; split <;> (try split) <;> (try split) <;> omega
  refine ⟨⟨by rw [backL_len]; exact hf.1, ?_⟩, ?_⟩
  · intro i hi
    rw [backL_len] at hi
    obtain ⟨q1, q2, q3, q4⟩ := hf.2 (l.length - 1 - i) (by omega)
    have e := backL_at l i hi
    refine ⟨by rw [e]; exact (htu _ q1 q2).1, by rw [e]; exact (htu _ q1 q2).2, by rw [e]; exact q3, ?_⟩
    unfold pairedAt at q4 ⊢
    rw [e, backL_len]
    dsimp only
    by_cases c3 : (l.getD (l.length - 1 - i) default).k = 3
    · have ht : turnOf (l.getD (l.length - 1 - i) default).k = 4 := by rw [c3]; decide
      rw [if_pos c3] at q4
      rw [ht, if_neg (by decide), if_pos rfl]
      simp only [Bool.and_eq_true, decide_eq_true_eq] at q4 ⊢
      refine ⟨by omega, ?_⟩
      rw [backL_at l (i - 1) (by omega), show l.length - 1 - (i - 1) = l.length - 1 - i + 1 by omega]
      dsimp only
      rw [q4.2]; decide
    · rw [if_neg c3] at q4
      by_cases c4 : (l.getD (l.length - 1 - i) default).k = 4
      · have ht : turnOf (l.getD (l.length - 1 - i) default).k = 3 := by rw [c4]; decide
        rw [if_pos c4] at q4
        rw [ht, if_pos rfl]
        simp only [Bool.and_eq_true, decide_eq_true_eq] at q4 ⊢
        refine ⟨by omega, ?_⟩
        rw [backL_at l (i + 1) (by omega), show l.length - 1 - (i + 1) = l.length - 1 - i - 1 by omega]
        dsimp only
        rw [q4.2]; decide
      · have ht : turnOf (l.getD (l.length - 1 - i) default).k ≠ 3 ∧ turnOf (l.getD (l.length - 1 - i) default).k ≠ 4 := by
          unfold turnOf
          split
          · decide
          · split
            · decide
            · omega
        rw [if_neg ht.1, if_neg ht.2]
  · intro c hc
    obtain ⟨d, hd, e⟩ := hall c hc
    subst e
    obtain ⟨h1, h2, h3, h4⟩ := hw d hd
    have hk : 1 ≤ turnOf d.k ∧ turnOf d.k ≤ 4 := by unfold turnOf; split <;> (try split) <;> (try split) <;> omega
    exact ⟨h1, h2, by dsimp only; omega, by dsimp only; omega⟩
theorem undo_one {kv : KV} {r : List Cel} {d : Int} (hg : good kv) (hr : rowOk r) (h : addE kv (encR r) d = 0) : addE (addV kv (encR r) d) (encR r) (-d) = 0 ∧ addV (addV kv (encR r) d) (encR r) (-d) = kv := by
  have hget := addV_get h
  have hgr := good_get hg (encR r)
  obtain ⟨h1, h2, h3⟩ := addE_zero.1 h
  have hz : addE (addV kv (encR r) d) (encR r) (-d) = 0 := by
    rw [addE_zero, hget, if_pos rfl]
    refine ⟨by omega, by omega, ?_⟩
    by_cases e0 : getK kv (encR r) = 0
    · left; omega
    · by_cases e1 : getK kv (encR r) + d = 0
      · right; right
        have : addV kv (encR r) d = delK kv (encR r) := by
          unfold addV
          rw [if_neg (by omega), if_neg (by omega), if_pos e1]
        rw [this]
        have := len_del_lt e0
        have := hg.len
        omega
      · right; left; exact e1
  refine ⟨hz, good_ext (good_add (good_add hg hr _) hr _) hg (fun k => ?_)⟩
  rw [addV_get hz, hget]
  split <;> omega
theorem back_play {kv : KV} {l : List Chg} (hg : good kv) (hf : formOk l) (hw : wfChgs l) (h : ∀ i, i < l.length → errK kv l i = 0) :
    ∀ i, i ≤ l.length → atK (atK kv l l.length) (backL l) i = atK kv l (l.length - i) ∧ ∀ j, j < i → errK (atK kv l l.length) (backL l) j = 0 := by
  intro i
  induction i with
  | zero => intro _; exact ⟨rfl, fun j hj => absurd hj (Nat.not_lt_zero j)⟩
  | succ i ih =>
    intro hi
    obtain ⟨h1, h2⟩ := ih (by omega)
    have hm : l.length - i = l.length - 1 - i + 1 := by omega
    have hkv : good (atK kv l (l.length - 1 - i)) := good_at hg hw hf _ (by omega)
    have hrow := chg_row hw hf (l.length - 1 - i) (by omega)
    have hk := hf.2 (l.length - 1 - i) (by omega)
    have herr := h (l.length - 1 - i) (by omega)
    unfold errK at herr
    have hu := undo_one hkv hrow herr
    have hs := atK_succ kv l (l.length - 1 - i) (by omega)
    rw [hm, hs] at h1
    have hb := backL_at l i (by omega)
    have hmo : moreOf ((backL l).getD i default).k = -(moreOf (l.getD (l.length - 1 - i) default).k) := by rw [hb]; exact turn_more hk.1 hk.2.1
    have hbr : ((backL l).getD i default).r = (l.getD (l.length - 1 - i) default).r := by rw [hb]
    refine ⟨?_, ?_⟩
    · rw [atK_succ _ _ i (by rw [backL_len]; omega), h1, hmo, hbr, hu.2, show l.length - (i + 1) = l.length - 1 - i by omega]
    · intro j hj
      by_cases e : j < i
      · exact h2 j e
      · have : j = i := by omega
        subst this
        unfold errK
        rw [h1, hmo, hbr]
        exact hu.1
end Go.Proofs.Ytkjiaeolodemlaf.ch

/- Undo: the changes backwards. -/
namespace Go.Proofs.Ytkjiaeolodemlaf.ch
open Go.ChangeShapes Go.WideShapes Go.ChangeAt Go.RowKit Go.Maps Go.WideMaps Go.Sort
open vl
set_option linter.unusedVariables false
set_option linter.unusedSimpArgs false

theorem turned_any (k : Int) (w : World) : Calls Try.prog 31 #[.int .i64 k] w fun e w' => e = .returned (.int .i64 (turnOf k)) ∧ w' = w := by
  by_cases h1 : k = 1
  · subst h1
    go_enter Try.func31, Try.ntmps31
    go_wp2
    go_ret
    exact ⟨rfl, rfl⟩
  · have h1' : (k == 1) = false := by simpa using h1
    by_cases h2 : k = 2
    · subst h2
      go_enter Try.func31, Try.ntmps31
      go_wp2
      go_ret
      exact ⟨rfl, rfl⟩
    · have h2' : (k == 2) = false := by simpa using h2
      by_cases h3 : k = 3
      · subst h3
        go_enter Try.func31, Try.ntmps31
        go_wp2
        go_ret
        exact ⟨rfl, rfl⟩
      · have h3' : (k == 3) = false := by simpa using h3
        have e : turnOf k = 3 := by unfold turnOf; rw [if_neg h1, if_neg h2, if_neg h3]
        rw [e]
        go_enter Try.func31, Try.ntmps31
        go_wp2
        go_ret
        exact ⟨rfl, rfl⟩

/-- changes that are being made -/
structure OS (w : World) (base : Nat) (v : Value) (l : List Chg) : Prop where
  low : base ≤ w.heap.size
  r : CR w base v (fun g => v.ownBlock = some g) l
theorem OS_below {w w' : World} {base : Nat} {v : Value} {l : List Chg} (h : OS w base v l) (hb : Below w.heap.size w w') : OS w' base v l := by
  obtain ⟨p, h1, h2, h3⟩ := h.r
  exact ⟨Nat.le_trans h.low hb.size, p, h1, own_below h2 hb, rowsC_fr h3 (fun b hlt _ => hb.block b hlt) (fun _ _ k => k)⟩
theorem OS_step {w w1 w2 : World} {base : Nat} {v : Value} {l : List Chg} {p : List (Int × Value)} {r : List Cel} {n : Int} {ad : Option Addr} {cap g cap2 : Nat} (h : OS w base v l)
    (hpl : p.length = l.length) (hpo : w.ownsRow base 58 2 v p.length (flatC p)) (hpr : rowsC w base (fun g => v.ownBlock = some g) p l)
    (hb1 : Below w.drew.heap.size w.drew w1) (hov : ownV w1 w.heap.size (.slice ad r.length cap) r) (hown2 : w2.ownsRow base 58 2 (.slice (some ⟨g, 0, none⟩) (p.length + 1) cap2) (p.length + 1) (flatC (p ++ [(n, .slice ad r.length cap)])))
    (hg2 : (w1.alloc (.cells #[.int .i64 n, .slice ad r.length cap] 58)).grownBy w2 v.ownBlock) (hat : v.ownBlock = some g ∨ g = w1.heap.size + 1) :
    OS w2 base (.slice (some ⟨g, 0, none⟩) (p.length + 1) cap2) (l ++ [⟨n, r⟩]) ∧ Below base w w2 := by
  have hs1 : w.heap.size ≤ w1.heap.size := hb1.size
  have hs2 : w1.heap.size + 1 ≤ w2.heap.size := by have := hg2.size; simpa using this
  have hvlt : ∀ b, v.ownBlock = some b → base ≤ b ∧ b < w.heap.size := fun b hb => own_lt hpo hb
  have hblk : ∀ b, b < w1.heap.size → v.ownBlock ≠ some b → w2.heap[b]? = w1.heap[b]? := fun b hb ho => by
    rw [hg2.block b (by simp; omega) (fun e => ho e.symm)]
    exact Below.heap_alloc _ _ b hb
  have hbw : Below base w w2 := by
    have hlow := h.low
    have hlow1 : base ≤ w.drew.heap.size := h.low
    have hb0 : Below base w.drew w2 := ((hb1.mono hlow1).alloc (Nat.le_trans hlow hs1) (.cells #[.int .i64 n, .slice ad r.length cap] 58)).grown hg2 (by simp; omega) (fun b hb => (hvlt b hb).1)
    exact ((Below.refl base w).drew).trans hb0
  have hno : ∀ b, b < w.heap.size → ¬ v.ownBlock = some b → w2.heap[b]? = w.heap[b]? := fun b hb hn => (hblk b (by omega) hn).trans (hb1.block b hb)
  have hnw : ∀ b, b < w.heap.size → (Value.slice (some ⟨g, 0, none⟩) (p.length + 1) cap2).ownBlock = some b → v.ownBlock = some b := by
    intro b hb e
    have hbg : g = b := by cases e; rfl
    subst hbg
    rcases hat with h1 | h1
    · exact h1
    · omega
  refine ⟨⟨Nat.le_trans h.low hbw.size, p ++ [(n, .slice ad r.length cap)], by rw [List.length_append, List.length_append, hpl]; rfl, by rw [List.length_append]; exact hown2, ?_⟩, hbw⟩
  intro i hi
  rw [List.length_append] at hi
  by_cases hlt : i < l.length
  · have := rowsC_fr hpr hno hnw i hlt
    rw [getD_snoc_lt l _ _ i hlt, getD_snoc_lt p _ _ i (by omega)]
    exact this
  · have hie : i = l.length := by simp at hi; omega
    rw [getD_snoc_at l _ _ i hie, getD_snoc_at p _ _ i (by omega)]
    refine ⟨rfl, ad, cap, rfl, ?_, ?_⟩
    · refine own_same (World.ownsRow.mono hov h.low) (fun b hb => ?_)
      have hbb := own_lt hov hb
      exact hblk b hbb.2 (fun e => by have := (hvlt b e).2; omega)
    · intro b hb e
      have hbb := own_lt hov hb
      have hbg : g = b := by cases e; rfl
      subst hbg
      rcases hat with h1 | h1
      · have := (hvlt g h1).2; omega
      · omega
theorem OS_chgs {w : World} {base : Nat} {ad : Option Addr} {n cap : Nat} {l : List Chg} (h : OS w base (.slice ad n cap) l) : chgsAt w ad l ∧ n = l.length := CR_chgs h.r

def undoRes (l : List Chg) (e : Ending) (w' : World) : Prop :=
  (formErr l ≠ 0 ∧ e = .returned (.tuple #[.slice none 0 0, .int .i64 (formErr l)])) ∨
  (formErr l = 0 ∧ ∃ ad cap, e = .returned (.tuple #[.slice ad (backL l).length cap, .int .i64 0]) ∧ chgsAt w' ad (backL l))

set_option maxRecDepth 100000 in
set_option maxHeartbeats 8000000 in
theorem undo_any (c : Option Addr) (cc : Nat) (l : List Chg) (w : World) (hc : chgsAt w c l) (hwl : wfChgs l) (hll : l.length ≤ 9223372036854775807) :
    Calls Try.prog 13 #[.slice c l.length cc] w fun e w' => undoRes l e w' ∧ Below w.heap.size w w' := by
  have KK := keysOf_any c cc l w hc hwl hll
  have HC : Hid (chgsAt w c l) := hc
  clear hc
  obtain ⟨n, hn⟩ : ∃ n, l.length = n := ⟨_, rfl⟩
  have HN : Hid (l.length = n) := hn
  rw [hn] at KK
  rw [hn]
  clear hn
  go_enter Try.func13, Try.ntmps13
  go_wp2_with fail
  refine KK.mono ?_
  rintro e w2 ⟨hres, hb2⟩
  rcases hres with ⟨hfe, hfo, ad, kc, rfl, hks⟩ | ⟨hfe, rfl⟩
  · have HFE : Hid (formErr l = 0) := hfe
    have HFO : Hid (formOk l) := hfo
    have hn4 : n ≤ 4096 := by rw [← HN.out]; exact HFO.out.1
    have hbz := hb2.size
    obtain ⟨i0, hi, hz0, hz1, hz2⟩ := info_parts infoG
    obtain ⟨wm, hmk, hown, hgr⟩ := run_make_own (P := Try.prog) w2 w2.heap.size 23 58 i0 (.agg #[.int .i64 0, .slice none 0 0]) 2 Try.underlying23 hi hz0 hz1 .i64 .i64 n (by rw [hz2]; omega) (by unfold maxLen; omega) (Nat.le_refl _)
    have hbm : Below w2.heap.size w2 wm := (Below.refl _ _).grown hgr (Nat.le_refl _) (fun k hk => by cases hk)
    have HKS : Hid (keysAt w2 ad l) := hks
    have HOS : Hid (OS wm w2.heap.size (.slice (some ⟨w2.heap.size, 0, none⟩) 0 n) []) := ⟨hbm.size, [], rfl, hown, fun i hi => absurd hi (Nat.not_lt_zero i)⟩
    have hwn : IntKind.i64.wrap ((n : Int) - 1) = (n : Int) - 1 := by rw [wrap_is]; omega
    rw [HN.out]
    clear hfe hfo hks KK hi hz0 hz1 hz2 hown hgr
    go_wp2
    go_loopw [6, 7] (fun v i wr => ∃ (j : Nat) (x : Int), j ≤ n ∧ x = (j : Int) - 1 ∧ i = .int .i64 x ∧ OS wr w2.heap.size v ((backL l).take (n - j)) ∧ Below w2.heap.size w2 wr) (fun _ i _ => (intOf i + 1).toNat)
    case atStart => exact ⟨n, (n : Int) - 1, by omega, rfl, rfl, by rw [Nat.sub_self]; exact HOS.out, hbm⟩
    case round =>
      obtain ⟨j, x, hj, hx, rfl, hos, hmx⟩ := hrel
      have hnx : Below w.heap.size w wr := hb2.trans (hmx.mono hbz)
      have HO : Hid (OS wr w2.heap.size u6 ((backL l).take (n - j))) := hos
      clear hos
      by_cases hj0 : j = 0
      · have hx1 : x = -1 := by omega
        clear hx
        subst hx1
        obtain ⟨ad2, cap2, hv2, _⟩ : ∃ ad cap, u6 = .slice ad n cap ∧ True := by
          obtain ⟨p, h1, h2, _⟩ := HO.out.r
          obtain ⟨ad, cap, hv, _⟩ := row_form h2
          refine ⟨ad, cap, ?_, trivial⟩
          rw [hv, h1, List.length_take, backL_len, HN.out, hj0]
          simp
        subst hv2
        have HT : Hid ((backL l).take (n - j) = backL l) := List.take_of_length_le (by rw [backL_len, HN.out]; omega)
        go_wp2
        go_ret2
        have hch := OS_chgs HO.out
        rw [HT.out] at hch
        exact ⟨.inr ⟨HFE.out, ad2, cap2, ret_sl hch.2, hch.1⟩, hnx⟩
      · obtain ⟨i, rfl⟩ : ∃ i, j = i + 1 := ⟨j - 1, by omega⟩
        have hx1 : x = (i : Int) := by omega
        clear hx
        subst hx1
        have hil : i < l.length := by rw [HN.out]; omega
        obtain ⟨b, o, ra, rc, e, x1, _, _⟩ := HC.out i hil
        subst e
        obtain ⟨g, e, x2⟩ := HKS.out i hil
        subst e
        have q1 := cell_later hnx x1
        have q2 := cell_later hmx x2
        have HRK : Hid (rowOk (l.getD i default).r) := chg_row hwl HFO.out i hil
        have HT : Hid ((backL l).take (n - i) = (backL l).take (n - (i + 1)) ++ [⟨turnOf (l.getD i default).k, (l.getD i default).r⟩]) := by
          show (backL l).take (n - i) = _
          rw [show n - i = n - (i + 1) + 1 by omega, takeC _ _ (by rw [backL_len, HN.out]; omega), backL_at _ _ (by rw [HN.out]; omega), HN.out, show n - 1 - (n - (i + 1)) = i by omega]
        obtain ⟨⟨kd, r⟩, hcv⟩ : ∃ c, l.getD i default = c := ⟨_, rfl⟩
        rw [hcv] at q1 q2 HRK HT
        dsimp only at q1 q2 HRK HT
        clear x1 x2 hcv
        obtain ⟨key, hkey⟩ : ∃ x, (⟨(encR r).toArray⟩ : ByteArray) = x := ⟨_, rfl⟩
        have HKE : Hid (encR r = key.data.toList) := by show encR r = key.data.toList; rw [← hkey]
        have HKL : Hid (key.size ≤ maxLen) := by
          show key.size ≤ maxLen
          rw [← list_len, ← HKE.out]; exact enc_len HRK.out
        rw [hkey] at q2
        clear hkey
        obtain ⟨rl, hrl⟩ : ∃ x, r.length = x := ⟨_, rfl⟩
        have HRL : Hid (r.length = rl) := hrl
        have KF : Hid (∀ w : World, Calls Try.prog 32 #[.string key] w fun e w' => (∃ ad cap, e = .returned (.slice ad rl cap) ∧ ownV w' w.heap.size (.slice ad rl cap) r) ∧ Below w.heap.size w w') := fun w => by
          rw [← hrl]; exact fresh_any r key w HRK.out HKE.out HKL.out
        clear hrl
        obtain ⟨tu, htu⟩ : ∃ x, turnOf kd = x := ⟨_, rfl⟩
        have KT : Hid (∀ w : World, Calls Try.prog 31 #[.int .i64 kd] w fun e w' => e = .returned (.int .i64 tu) ∧ w' = w) := by rw [← htu]; exact turned_any kd
        rw [htu] at HT
        clear htu
        obtain ⟨p, hpl, hpo, hpr⟩ := HO.out.r
        have HPL : Hid (p.length = ((backL l).take (n - (i + 1))).length) := hpl
        have HPR : Hid (rowsC wr w2.heap.size (fun g => u6.ownBlock = some g) p ((backL l).take (n - (i + 1)))) := hpr
        have hp9 : p.length ≤ 1000000000 := by rw [hpl, List.length_take]; omega
        obtain ⟨pn, hpn⟩ : ∃ x, p.length = x := ⟨_, rfl⟩
        have HPN : Hid (p.length = pn) := hpn
        rw [hpn] at hpo hp9
        have HPO : Hid (wr.ownsRow w2.heap.size 58 2 u6 pn (flatC p)) := hpo
        have hlow := HO.out.low
        clear hpl hpr hpo hpn
        have i1 : (0 : Int) ≤ (i : Int) := by omega
        have i2 : (i : Int) < (n : Int) := by omega
        have hwi : IntKind.i64.wrap ((i : Int) - 1) = (i : Int) - 1 := by rw [wrap_is]; omega
        go_wp2
        go_region_law (first
          | (refine step_appC (by rfl) (.tmp 26) (.tmp 39) (by rfl) w2.heap.size u6 p tu ad rl cap w1 pn HPN.out HO1.out hp9 (Nat.le_trans hlow hb1.size) (by rfl) (by rfl) ?_; intro g cap2 w3 hown2 hgrow2 hat2 hlt2)
          | (go_simp; go_at_call 31; refine (KT.out _).mono ?_; rintro e wt ⟨rfl, rfl⟩)
          | (go_simp; go_at_call 32; refine (KF.out wr.drew).mono ?_; rintro e w1 ⟨⟨ad, cap, rfl, hov⟩, hb1⟩; have q1a := cell_later (w := wr.drew) hb1 q1; have HO1 : Hid (w1.ownsRow w2.heap.size 58 2 u6 pn (flatC p)) := own_below HPO.out.drew hb1))
        all_goals
          have HST := OS_step (r := r) (n := tu) (ad := ad) (cap := cap) (g := g) (cap2 := cap2) (w1 := w1) (w2 := w3) HO.out HPL.out (by rw [HPN.out]; exact HPO.out) HPR.out hb1 (by rw [HRL.out]; exact hov) (by rw [HPN.out, HRL.out]; exact hown2) (by rw [HRL.out]; exact hgrow2) hat2
          rw [HPN.out] at HST
          go_wp2
          go_roundw
          case rel => exact ⟨i, _, by omega, rfl, by go_num, by rw [HT.out]; exact HST.1, hmx.trans HST.2⟩
          case measure => simp [intOf] <;> omega
  · have hfe' : (formErr l == 0) = false := by simpa using hfe
    have HFE : Hid (formErr l ≠ 0) := hfe
    clear hfe
    obtain ⟨x, hx⟩ : ∃ x, formErr l = x := ⟨_, rfl⟩
    have HX : Hid (formErr l = x) := hx
    rw [hx] at hfe' ⊢
    clear hx
    go_wp2
    go_ret2
    exact ⟨.inl ⟨HFE.out, ret_str HX.out.symm⟩, hb2⟩
end Go.Proofs.Ytkjiaeolodemlaf.ch

/- steps: how many changes counts come to, by going over the map in whatever order. -/
namespace Go.Proofs.Ytkjiaeolodemlaf.ch
open Go.ChangeShapes Go.WideShapes Go.ChangeAt Go.RowKit Go.Maps Go.WideMaps Go.Sort
open vl
set_option linter.unusedVariables false
set_option linter.unusedSimpArgs false

/-- what comes out of a map of counts is one of them -/
theorem at_all {kv : KV} {k : List UInt8} {y : DataW Unit} (h : ∀ zd, (toD kv).atKey (.string k) zd = y) : ∃ p ∈ kv, p.1 = k ∧ y = .lit (.int .i64 p.2) := by
  have h0 := h (.lit (.int .i64 0))
  have h1 := h (.lit (.int .i64 1))
  unfold toD DataW.atKey at h0 h1
  simp only [List.find?_map] at h0 h1
  have e : ((fun p : Lit × DataW Unit => p.1.sameKey (.string k)) ∘ ent) = fun p => p.1 == k := rfl
  rw [e] at h0 h1
  cases hf : kv.find? (fun p => p.1 == k) with
  | none =>
    rw [hf] at h0 h1
    simp at h0 h1
    rw [← h0] at h1
    cases h1
  | some p =>
    rw [hf] at h0
    refine ⟨p, List.mem_of_find?_eq_some hf, by simpa using List.find?_some hf, ?_⟩
    simpa [ent] using h0.symm
theorem has_toD (kv : KV) (k : List UInt8) : Maps.has (toD kv) (.string k) = kv.any (fun p => p.1 == k) := by
  show (kv.map ent).any (fun p => p.1.sameKey (.string k)) = _
  rw [List.any_map]
  rfl
theorem has_of {kv : KV} {p : List UInt8 × Int} (h : p ∈ kv) : Maps.has (toD kv) (.string p.1) = true := by
  rw [has_toD, List.any_eq_true]
  exact ⟨p, h, by simp⟩
theorem has_none {kv : KV} {k : List UInt8} (h : Maps.has (toD kv) (.string k) = false) : getK kv k = 0 := by
  rw [has_toD, List.any_eq_false] at h
  exact getK_none (fun p hp e => h p hp (by simpa using e))
theorem same_str (a b : List UInt8) : (Lit.string a).sameKey (.string b) = (a == b) := rfl

/-- what has been counted -/
def doneSum (left : Lit → Bool) : KV → Nat
  | [] => 0
  | p :: r => (if left (.string p.1) then 0 else p.2.natAbs) + doneSum left r
theorem done_start {left : Lit → Bool} {kv : KV} (h : ∀ p ∈ kv, left (.string p.1) = true) : doneSum left kv = 0 := by
  induction kv with
  | nil => rfl
  | cons p r ih => rw [doneSum, if_pos (h p (List.mem_cons_self ..)), ih (fun q hq => h q (List.mem_cons_of_mem _ hq))]
theorem done_end {left : Lit → Bool} {kv : KV} (h : ∀ k, left k = false) : doneSum left kv = sumAbs kv := by
  induction kv with
  | nil => rfl
  | cons p r ih => rw [doneSum, if_neg (by rw [h]; decide), ih, sumAbs]
theorem done_other {left : Lit → Bool} {kv : KV} {k : List UInt8} (h : ∀ p ∈ kv, p.1 ≠ k) : doneSum (fun z => left z && !z.sameKey (.string k)) kv = doneSum left kv := by
  induction kv with
  | nil => rfl
  | cons p r ih =>
    have e : (p.1 == k) = false := by simpa using h p (List.mem_cons_self ..)
    rw [doneSum, doneSum, ih (fun q hq => h q (List.mem_cons_of_mem _ hq)), same_str, e]
    simp
theorem done_step {left : Lit → Bool} {kv : KV} (hr : rising kv) {p : List UInt8 × Int} (hp : p ∈ kv) (hl : left (.string p.1) = true) : doneSum (fun z => left z && !z.sameKey (.string p.1)) kv = doneSum left kv + p.2.natAbs := by
  induction kv with
  | nil => cases hp
  | cons q r ih =>
    have h1 := List.pairwise_cons.1 hr
    rcases List.mem_cons.1 hp with e | hp
    · subst e
      rw [doneSum, doneSum, done_other (fun x hx e => by
        have := h1.1 x hx
        rw [e, before_irrefl] at this; cases this), same_str, hl]
      simp; omega
    · have hne : (q.1 == p.1) = false := by
        rw [beq_eq_false_iff_ne]
        intro e
        have := h1.1 p hp
        rw [e, before_irrefl] at this; cases this
      rw [doneSum, doneSum, ih h1.2 hp, same_str, hne]
      simp; omega
theorem done_le (left : Lit → Bool) (kv : KV) : doneSum left kv ≤ sumAbs kv := by
  induction kv with
  | nil => exact Nat.le_refl _
  | cons p r ih => rw [doneSum, sumAbs]; split <;> omega
theorem sumAbs_le {kv : KV} {m : Nat} (h : ∀ p ∈ kv, p.2.natAbs ≤ m) : sumAbs kv ≤ kv.length * m := by
  induction kv with
  | nil => simp [sumAbs]
  | cons p r ih =>
    rw [sumAbs, List.length_cons, Nat.add_mul, Nat.one_mul]
    have h1 := h p (List.mem_cons_self ..)
    have h2 := ih (fun q hq => h q (List.mem_cons_of_mem _ hq))
    omega
theorem key_str {key : Value} {kl : Lit} {s : ByteArray} (h : keyOf Try.prog 9 key = some kl) (hs : key = .string s) : kl = .string s.data.toList := by
  subst hs
  have hk : Try.prog.underlying 9 = some .string := Try.underlying9
  simp [keyOf, hk, mapKey] at h
  exact h.2.symm

set_option maxRecDepth 10000 in
set_option maxHeartbeats 4000000 in
theorem steps_any (B nn : Nat) (kv : KV) (w : World) (hm : cmap w B nn kv) (hr : rising kv) (hlen : kv.length ≤ 100000) (hc : ∀ p ∈ kv, -10000000000 ≤ p.2 ∧ p.2 ≤ 10000000000) :
    Calls Try.prog 22 #[.map (some B)] w fun e w' => e = .returned (.int .i64 (sumAbs kv)) ∧ Below w.heap.size w w' := by
  have HM : Hid (w.ownsMap Try.prog 9 (plainElem (H := Unit) Try.prog 3) B nn (toD kv)) := hm
  have hBlt := cmap_lt hm
  have hs9 : sumAbs kv ≤ 1000000000000000 := by
    have := sumAbs_le (kv := kv) (m := 10000000000) (fun p hp => by have := hc p hp; omega)
    omega
  have HC : Hid (∀ p ∈ kv, -10000000000 ≤ p.2 ∧ p.2 ≤ 10000000000) := hc
  have HR : Hid (rising kv) := hr
  clear hm hc hr
  go_enter Try.func22, Try.ntmps22
  go_wp2_with (at_range; refine wpList_range_own _ rfl (.tmp 6) 40 rfl 9 3 law Try.underlying40 _ B nn _ rfl HM.out ?_; intro w0 hrg0 hg0 hs0)
  go_frame
  have HRG0 : Hid (w0.ranges Try.prog 9 (plainElem (H := Unit) Try.prog 3) B w.heap.size nn (toD kv) (Maps.has (toD kv)) (Maps.size (toD kv))) := hrg0
  have hb0 : Below w.heap.size w w0 := (Below.refl _ _).grown hg0 (Nat.le_refl _) (fun k hk => by cases hk)
  clear hrg0 hg0
  go_loopw [3] (fun i wr => ∃ left cnt, wr.ranges Try.prog 9 (plainElem (H := Unit) Try.prog 3) B w.heap.size nn (toD kv) left cnt ∧ i = .int .i64 (doneSum left kv) ∧ Below w.heap.size w wr) (fun _ wr => wr.rangeLeft B w.heap.size)
  case atStart => exact ⟨_, _, HRG0.out, by rw [done_start (fun p hp => has_of hp)]; rfl, hb0⟩
  case round =>
    obtain ⟨left, cnt, hrg, rfl, hnx⟩ := hrel
    have HRG : Hid (wr.ranges Try.prog 9 (plainElem (H := Unit) Try.prog 3) B w.heap.size nn (toD kv) left cnt) := hrg
    have HLE : Hid (wr.rangeLeft B w.heap.size = cnt) := hrg.left_eq
    clear hrg
    go_wp2_with (at_next; refine wpList_next_ranges _ rfl (.tmp 7) rfl 9 law _ (fun s : ByteArray => .string s) (fun c : Int => .int .i64 c) (fun key kl hk => Maps.keyOf_string_inv Try.underlying9 hk) (fun v y hv => by obtain ⟨c, h, _⟩ := plainElem_int_inv Try.underlying3 hv; exact ⟨c, h⟩) B w.heap.size nn _ left cnt rfl HRG.out ?_ ?_)
    · intro hc0 hl0
      have HD : Hid (doneSum left kv = sumAbs kv) := done_end hl0
      clear hl0
      go_wp2
      go_ret
      exact ⟨ret_int (by rw [HD.out]), hnx⟩
    · intro s c kl ya yb w1 cnt1 hkey hlx hv hat hrg1 hlt hg1 hs1 hen
      have hkl := key_str hkey rfl
      subst hkl
      obtain ⟨p, hp, hpk, hya⟩ := at_all hat
      obtain ⟨c', e1, e2, _⟩ := plainElem_int_inv Try.underlying3 hv
      have hpc : c = p.2 := by
        cases e1
        have := congrArg Prod.fst e2
        dsimp only at this
        rw [hya] at this
        cases this
        rfl
      have hcb := HC.out p hp
      rw [← hpc] at hcb
      rw [← hpk] at hlx hrg1
      have hst := done_step HR.out hp hlx
      have hle := done_le left kv
      rw [← hpc] at hst
      have HRG1 : Hid (w1.ranges Try.prog 9 (plainElem (H := Unit) Try.prog 3) B w.heap.size nn (toD kv) (fun z => left z && !z.sameKey (.string p.1)) cnt1) := hrg1
      have HLT : Hid (cnt1 < cnt) := hlt
      have hnx1 : Below w.heap.size w w1 := hnx.grown hg1 hnx.size (fun x hx => by cases hx; exact Nat.le_refl _)
      have HST : Hid (doneSum (fun z => left z && !z.sameKey (.string p.1)) kv = doneSum left kv + c.natAbs) := hst
      obtain ⟨ds, hds⟩ : ∃ x, doneSum left kv = x := ⟨_, rfl⟩
      rw [hds] at HST hle ⊢
      clear hkey hlx hv hat hrg1 hlt hg1 hst hds e1 e2 hya hpc hs1
      have hwn : IntKind.i64.wrap (-c) = -c := by rw [wrap_is]; omega
      by_cases hneg : -c > c
      · have hw1 : IntKind.i64.wrap ((ds : Int) + -c) = (ds : Int) + -c := by rw [wrap_is]; omega
        have hw2 : IntKind.i64.wrap ((ds : Int) - c) = (ds : Int) - c := by rw [wrap_is]; omega
        go_wp2
        go_roundw
        case rel => exact ⟨_, cnt1, HRG1.out, congrArg (Value.int .i64) (by rw [HST.out]; omega), hnx1⟩
        case measure => rw [HRG1.out.left_eq, HLE.out]; exact HLT.out
      · have hw1 : IntKind.i64.wrap ((ds : Int) + c) = (ds : Int) + c := by rw [wrap_is]; omega
        go_wp2
        go_roundw
        case rel => exact ⟨_, cnt1, HRG1.out, congrArg (Value.int .i64) (by rw [HST.out]; omega), hnx1⟩
        case measure => rw [HRG1.out.left_eq, HLE.out]; exact HLT.out
end Go.Proofs.Ytkjiaeolodemlaf.ch

/- Diff: the changes that make one view of another. -/
namespace Go.Proofs.Ytkjiaeolodemlaf.ch
open Go.ChangeShapes Go.WideShapes Go.ChangeAt Go.RowKit Go.Maps Go.WideMaps Go.Sort
open vl
set_option linter.unusedVariables false
set_option linter.unusedSimpArgs false

/-- counts, while those of another view are being taken off -/
structure less (kvA kvB kv : KV) (left : Lit → Bool) (j : Nat) : Prop where
  up : rising kv
  key : keyed kv
  len : kv.length ≤ j
  get : ∀ k, getK kv k = getK kvB k - if left (.string k) then 0 else getK kvA k
theorem less_start {kvA kvB : KV} (hb : good kvB) : less kvA kvB kvB (Maps.has (toD kvA)) kvB.length := by
  refine ⟨hb.up, hb.key, Nat.le_refl _, fun k => ?_⟩
  cases h : Maps.has (toD kvA) (.string k) with
  | true => simp
  | false => rw [has_none h]; simp
theorem less_step {kvA kvB kv : KV} {left : Lit → Bool} {j : Nat} (ha : good kvA) (h : less kvA kvB kv left j) {p : List UInt8 × Int} (hp : p ∈ kvA) (hl : left (.string p.1) = true) :
    less kvA kvB (putK kv p.1 (getK kv p.1 - p.2)) (fun z => left z && !z.sameKey (.string p.1)) (j + 1) := by
  obtain ⟨r, hr, er⟩ := ha.key p hp
  refine ⟨rising_put h.up _ _, by rw [← er]; exact keyed_put h.key hr _, ?_, fun k => ?_⟩
  · rw [len_put]
    have := len_del kv p.1
    have := h.len
    omega
  · rw [getK_put]
    by_cases e : k = p.1
    · subst e
      rw [if_pos rfl, h.get, hl, same_str]
      simp [getK_of ha.up hp]
    · have e2 : (k == p.1) = false := by simpa using e
      rw [if_neg e, h.get, same_str, e2]
      simp
theorem less_bound {kvA kvB kv : KV} {left : Lit → Bool} {j : Nat} (ha : good kvA) (hb : good kvB) (h : less kvA kvB kv left j) (k : List UInt8) : -1073741824 ≤ getK kv k ∧ getK kv k ≤ 1073741824 := by
  have h1 := good_get ha k
  have h2 := good_get hb k
  rw [h.get]
  split <;> omega
theorem less_end {kvA kvB kv : KV} {left : Lit → Bool} {j : Nat} (h : less kvA kvB kv left j) (hl : ∀ k, left k = false) (k : List UInt8) : getK kv k = getK kvB k - getK kvA k := by
  rw [h.get, hl]; simp

theorem less_mono {kvA kvB kv : KV} {left : Lit → Bool} {j i : Nat} (h : less kvA kvB kv left j) (hi : j ≤ i) : less kvA kvB kv left i := ⟨h.up, h.key, Nat.le_trans h.len hi, h.get⟩
theorem cmap_grown {w w' : World} {B nn : Nat} {row : Option Nat} {kv : KV} (h : cmap w B nn kv) (hg : w.grownBy w' row) (hne : some B ≠ row) : cmap w' B nn kv := by
  have hlt := cmap_lt h
  obtain ⟨es, clock, h1, h2, h3, h4⟩ := h
  exact ⟨es, clock, by rw [hg.block B hlt hne]; exact h1, h2, h3, h4⟩
def diffRes (a b : List Cnt) (e : Ending) (w' : World) : Prop :=
  (viewErr a ≠ 0 ∧ e = .returned (.tuple #[.slice none 0 0, .int .i64 (viewErr a)])) ∨
  (viewErr a = 0 ∧ viewErr b ≠ 0 ∧ e = .returned (.tuple #[.slice none 0 0, .int .i64 (viewErr b)])) ∨
  (viewErr a = 0 ∧ viewErr b = 0 ∧ viewOk a ∧ viewOk b ∧ ∃ out : List Cnt, (∀ c ∈ out, rowOk c.r) ∧ rising (kvOf out) ∧ (∀ k, getK (kvOf out) k = getK (kvOf b) k - getK (kvOf a) k) ∧
    ((4096 < (madeL out).length ∧ e = .returned (.tuple #[.slice none 0 0, .int .i64 2])) ∨
     ((madeL out).length ≤ 4096 ∧ ∃ ad cap, e = .returned (.tuple #[.slice ad (madeL out).length cap, .int .i64 0]) ∧ chgsAt w' ad (madeL out))))

set_option maxRecDepth 100000 in
set_option maxHeartbeats 8000000 in
theorem diff_any (a b : Option Addr) (ca cb : Nat) (va vb : List Cnt) (w : World) (hva : viewAt w a va) (hvb : viewAt w b vb) (wa : wfView va) (wb : wfView vb) (la : va.length ≤ 9223372036854775807) (lb : vb.length ≤ 9223372036854775807) :
    Calls Try.prog 8 #[.slice a va.length ca, .slice b vb.length cb] w fun e w' => diffRes va vb e w' ∧ Below w.heap.size w w' := by
  have KA := gather_any a ca va w hva wa la
  have KB : Hid (∀ w1, Below w.heap.size w w1 → Calls Try.prog 21 #[.slice b vb.length cb] w1 fun e w' => gatherRes vb w1.heap.size e w' ∧ Below w1.heap.size w1 w') := fun w1 hb => gather_any b cb vb w1 (viewAt_below hvb hb) wb lb
  clear hva hvb
  obtain ⟨m, hm⟩ : ∃ m, va.length = m := ⟨_, rfl⟩
  have HM : Hid (va.length = m) := hm
  obtain ⟨n, hn⟩ : ∃ n, vb.length = n := ⟨_, rfl⟩
  have HN : Hid (vb.length = n) := hn
  rw [hm] at KA la
  rw [hn] at KB lb
  rw [hm, hn]
  clear hm hn
  go_enter Try.func8, Try.ntmps8
  go_wp2_with fail
  refine KA.mono ?_
  rintro e w1 ⟨hres, hb1⟩
  rcases hres with ⟨hve, hvo, B, rfl, hB, hcm⟩ | ⟨hve, rfl⟩
  · have HVE : Hid (viewErr va = 0) := hve
    have HVO : Hid (viewOk va) := hvo
    have HCM : Hid (cmap w1 B va.length (kvOf va)) := hcm
    have hBlt := cmap_lt hcm
    clear hve hvo hcm KA
    go_wp2_with fail
    refine (KB.out w1 hb1).mono ?_
    rintro e w2 ⟨hres, hb2⟩
    have hw2 : Below w.heap.size w w2 := hb1.trans (hb2.mono hb1.size)
    rcases hres with ⟨hve, hvo, C, rfl, hC, hcm⟩ | ⟨hve, rfl⟩
    · have HVE2 : Hid (viewErr vb = 0) := hve
      have HVO2 : Hid (viewOk vb) := hvo
      have HCB : Hid (cmap w2 C vb.length (kvOf vb)) := hcm
      have HCA : Hid (w2.ownsMap Try.prog 9 (plainElem (H := Unit) Try.prog 3) B va.length (toD (kvOf va))) := cmap_below HCM.out hb2
      have hClt := cmap_lt hcm
      have HGA : Hid (good (kvOf va)) := view_good wa HVO.out
      have HGB : Hid (good (kvOf vb)) := view_good wb HVO2.out
      have hm4 : m ≤ 4096 := by rw [← HM.out]; exact HVO.out.1
      have hn4 : n ≤ 4096 := by rw [← HN.out]; exact HVO2.out.1
      have HSZ : Hid (Maps.size (toD (kvOf va)) = m) := by show Maps.size (toD (kvOf va)) = m; rw [toD_size, kvOf_len, HM.out]
      have hs1 := hb1.size
      have hs2 := hb2.size
      have hCB : C ≠ B := by omega
      have hwC : w.heap.size ≤ C := by omega
      clear hve hvo hcm HCM
      go_wp2_with (at_range; refine wpList_range_own _ rfl (.tmp 27) 40 rfl 9 3 law Try.underlying40 _ B va.length _ rfl HCA.out ?_; intro w0 hrg0 hg0 hs0)
      go_frame
      rw [HSZ.out] at hrg0
      have HRG0 : Hid (w0.ranges Try.prog 9 (plainElem (H := Unit) Try.prog 3) B w2.heap.size va.length (toD (kvOf va)) (Maps.has (toD (kvOf va))) m) := hrg0
      have hb0 : Below w.heap.size w w0 := hw2.grown hg0 hw2.size (fun k hk => by cases hk)
      have HC0 : Hid (cmap w0 C n (kvOf vb)) := by
        show cmap w0 C n (kvOf vb)
        rw [← HN.out]
        exact cmap_below HCB.out ((Below.refl _ _).grown hg0 (Nat.le_refl _) (fun k hk => by cases hk))
      clear hrg0 hg0
      go_loopw [] (fun wr => ∃ left cnt kv, wr.ranges Try.prog 9 (plainElem (H := Unit) Try.prog 3) B w2.heap.size va.length (toD (kvOf va)) left cnt ∧ cnt ≤ m ∧ cmap wr C (n + (m - cnt)) kv ∧ less (kvOf va) (kvOf vb) kv left (n + (m - cnt)) ∧ Below w.heap.size w wr) (fun wr => wr.rangeLeft B w2.heap.size)
      case atStart => exact ⟨_, m, kvOf vb, HRG0.out, Nat.le_refl _, by rw [Nat.sub_self]; exact HC0.out, by
        have h := less_start (kvA := kvOf va) HGB.out
        rw [kvOf_len, HN.out] at h
        rw [Nat.sub_self]; exact h, hb0⟩
      case round =>
        obtain ⟨left, cnt, kv, hrg, hcnt, hcm, hle, hnx⟩ := hrel
        have HRG : Hid (wr.ranges Try.prog 9 (plainElem (H := Unit) Try.prog 3) B w2.heap.size va.length (toD (kvOf va)) left cnt) := hrg
        have HLE : Hid (wr.rangeLeft B w2.heap.size = cnt) := hrg.left_eq
        have HCM : Hid (cmap wr C (n + (m - cnt)) kv) := hcm
        have HL : Hid (less (kvOf va) (kvOf vb) kv left (n + (m - cnt))) := hle
        clear hrg hcm hle
        go_wp2_with (at_next; refine wpList_next_ranges _ rfl (.tmp 28) rfl 9 law _ (fun s : ByteArray => .string s) (fun c : Int => .int .i64 c) (fun key kl hk => Maps.keyOf_string_inv Try.underlying9 hk) (fun v y hv => by obtain ⟨c, h, _⟩ := plainElem_int_inv Try.underlying3 hv; exact ⟨c, h⟩) B w2.heap.size va.length _ left cnt rfl HRG.out ?_ ?_)
        · intro hc0 hl0
          have HEND : Hid (∀ k, getK kv k = getK (kvOf vb) k - getK (kvOf va) k) := less_end HL.out hl0
          obtain ⟨out, ho1, ho2⟩ := keyed_out HL.out.key
          have hkl := HL.out.len
          have KS := steps_any C (n + (m - cnt)) kv wr HCM.out HL.out.up (by omega) (fun p hp => by
            have h1 := less_bound HGA.out HGB.out HL.out p.1
            rw [getK_of HL.out.up hp] at h1
            omega)
          have HO1 : Hid (kvOf out = kv) := ho1
          have HO2 : Hid (∀ c ∈ out, rowOk c.r) := ho2
          have HML : Hid ((madeL out).length = sumAbs kv) := by show (madeL out).length = sumAbs kv; rw [made_len, ho1]
          have hol : out.length ≤ 100000 := by
            have : out.length = kv.length := by rw [← ho1, kvOf_len]
            omega
          have HDI : Hid ((dels out).length + (inss out).length = (madeL out).length) := by
            show (dels out).length + (inss out).length = (madeL out).length
            unfold madeL; rw [List.length_append]
          clear hl0 ho1 ho2 hkl
          obtain ⟨sm, hsm⟩ : ∃ x, sumAbs kv = x := ⟨_, rfl⟩
          rw [hsm] at KS HML
          clear hsm
          by_cases hbig : 4096 < sm
          · have hbI : (4096 : Int) < (sm : Int) := by omega
            go_wp2_with (go_at_call 22; refine KS.mono ?_; rintro e w9 ⟨rfl, hb9⟩)
            go_ret2
            exact ⟨.inr (.inr ⟨HVE.out, HVE2.out, HVO.out, HVO2.out, out, HO2.out, by rw [HO1.out]; exact HL.out.up, by rw [HO1.out]; exact HEND.out, .inl ⟨by rw [HML.out]; exact hbig, rfl⟩⟩), hnx.trans (hb9.mono hnx.size)⟩
          · have hbI : ¬ (4096 : Int) < (sm : Int) := by omega
            have KC : Hid (∀ w9, Below wr.heap.size wr w9 → Calls Try.prog 23 #[.map (some C)] w9 fun e w' => (∃ ad cap, e = .returned (.slice ad (dels out ++ inss out).length cap) ∧ chgsAt w' ad (dels out ++ inss out)) ∧ Below w9.heap.size w9 w') := fun w9 hb9 =>
              changes_any C (n + (m - cnt)) out w9 (by rw [HO1.out]; exact cmap_below HCM.out hb9) (by rw [HO1.out]; exact HL.out.up) HO2.out hol (by have := HDI.out; rw [HML.out] at this; omega) (by have := HDI.out; rw [HML.out] at this; omega)
            have hlen : (dels out ++ inss out).length = sm := HML.out
            rw [hlen] at KC
            clear hlen hol
            go_wp2_with (first
              | (go_at_call 22; refine KS.mono ?_; rintro e w9 ⟨rfl, hb9⟩)
              | (go_at_call 23; refine (KC.out _ hb9).mono ?_; rintro e w10 ⟨⟨oa, oc, rfl, hva⟩, hb10⟩))
            go_ret2
            have h9 := hnx.trans (hb9.mono hnx.size)
            exact ⟨.inr (.inr ⟨HVE.out, HVE2.out, HVO.out, HVO2.out, out, HO2.out, by rw [HO1.out]; exact HL.out.up, by rw [HO1.out]; exact HEND.out, .inr ⟨by rw [HML.out]; omega, oa, oc, ret_sl HML.out.symm, hva⟩⟩), h9.trans (hb10.mono h9.size)⟩
        · intro s c kl ya yb w3 cnt1 hkey hlx hv hat hrg1 hlt hg1 hs1 hen
          have hkl := key_str hkey rfl
          subst hkl
          obtain ⟨p, hp, hpk, hya⟩ := at_all hat
          obtain ⟨c', e1, e2, _⟩ := plainElem_int_inv Try.underlying3 hv
          have hpc : c = p.2 := by
            cases e1
            have := congrArg Prod.fst e2
            dsimp only at this
            rw [hya] at this
            cases this
            rfl
          have hcb := HGA.out.cnt p hp
          have hg0 := less_bound HGA.out HGB.out HL.out p.1
          rw [← hpk] at hlx hrg1
          have hst := less_step HGA.out HL.out hp hlx
          rw [← hpc] at hst hcb
          rw [hpk] at hst hrg1 hg0
          have HRG1 : Hid (w3.ranges Try.prog 9 (plainElem (H := Unit) Try.prog 3) B w2.heap.size va.length (toD (kvOf va)) (fun z => left z && !z.sameKey (.string s.data.toList)) cnt1) := hrg1
          have HST : Hid (less (kvOf va) (kvOf vb) (putK kv s.data.toList (getK kv s.data.toList - c)) (fun z => left z && !z.sameKey (.string s.data.toList)) (n + (m - cnt) + 1)) := hst
          have HC3 : Hid (w3.ownsMap Try.prog 9 (plainElem (H := Unit) Try.prog 3) C (n + (m - cnt)) (toD kv)) := cmap_grown HCM.out hg1 (fun e => by cases e; omega)
          have HKY : Hid (keyOf Try.prog 9 (.string s) = some (.string s.data.toList)) := hkey
          have hnx1 : Below w.heap.size w w3 := hnx.grown hg1 hnx.size (fun x hx => by cases hx; exact hw2.size)
          obtain ⟨g0, hgk⟩ : ∃ x, getK kv s.data.toList = x := ⟨_, rfl⟩
          have HGK : Hid (getK kv s.data.toList = g0) := hgk
          rw [hgk] at HST hg0
          clear hkey hlx hv hat hrg1 hg1 hst e1 e2 hya hpc hpk hs1 hgk hp
          have hwn : IntKind.i64.wrap (g0 - c) = g0 - c := by rw [wrap_is]; omega
          go_wp2_with (first
            | (at_lookup; refine wpList_lookup_own_int _ rfl (.tmp 34) (.tmp 35) 40 rfl 9 3 .i64 law Try.underlying40 Try.underlying3 (zeroE _) C (n + (m - cnt)) _ rfl HC3.out _ (.string s.data.toList) rfl HKY.out ?_; intro c0 hat hwc; have hc : c0 = g0 := (cmap_at hat).trans HGK.out; clear hat; subst hc)
            | (at_mapUpdate; refine wpList_mapUpdate_own _ rfl (.tmp 34) (.tmp 35) (.tmp 38) 40 rfl 9 3 law Try.underlying40 _ C (n + (m - cnt)) _ rfl HC3.out (by unfold maxLen; omega) _ _ (.string s.data.toList) rfl rfl HKY.out _ [] (plainElem_int Try.underlying3 (WalkArith.wf_i64 (by omega))) ?_; intro w4 hown1 hgrow1))
          simp only [Act.put]
          go_roundw
          case rel => exact ⟨_, cnt1, _, HRG1.out.kept hgrow1 (fun e => by cases e; exact hCB rfl) (fun e => by cases e; omega), by omega, (show cmap w4 C _ _ from World.ownsMap.mono (cmap_put hown1) (by omega)), less_mono HST.out (by omega), hnx1.grown hgrow1 hnx1.size (fun x hx => by cases hx; exact hwC)⟩
          case measure => rw [(HRG1.out.kept hgrow1 (fun e => by cases e; exact hCB rfl) (fun e => by cases e; omega)).left_eq, HLE.out]; exact hlt
    · have hve' : (viewErr vb == 0) = false := by simpa using hve
      have HV2 : Hid (viewErr vb ≠ 0) := hve
      clear hve
      obtain ⟨x, hx⟩ : ∃ x, viewErr vb = x := ⟨_, rfl⟩
      have HX : Hid (viewErr vb = x) := hx
      rw [hx] at hve' ⊢
      clear hx
      go_wp2
      go_ret2
      exact ⟨.inr (.inl ⟨HVE.out, HV2.out, ret_str HX.out.symm⟩), hw2⟩
  · have hve' : (viewErr va == 0) = false := by simpa using hve
    have HVE : Hid (viewErr va ≠ 0) := hve
    clear hve
    obtain ⟨x, hx⟩ : ∃ x, viewErr va = x := ⟨_, rfl⟩
    have HX : Hid (viewErr va = x) := hx
    rw [hx] at hve' ⊢
    clear hx
    go_wp2
    go_ret2
    exact ⟨.inl ⟨HVE.out, ret_str HX.out.symm⟩, hb1⟩
end Go.Proofs.Ytkjiaeolodemlaf.ch

/- The document's Copy: a row of its own; and SameChanges: are two lists of changes the same? -/
namespace Go.Proofs.Ytkjiaeolodemlaf.ch
open Go.ChangeShapes Go.WideShapes Go.ChangeAt Go.RowKit Go.Maps Go.WideMaps
open vl
set_option linter.unusedVariables false
set_option linter.unusedSimpArgs false

instance : DecidableEq Chg := fun a b => if h : a.k = b.k ∧ a.r = b.r then isTrue (by cases a; cases b; simp at h; simp [h]) else isFalse (fun e => h (by rw [e]; exact ⟨rfl, rfl⟩))
theorem take_eq_chg {r1 r2 : List Chg} {k : Nat} (h1 : k < r1.length) (h2 : k < r2.length) (h : r1.take k = r2.take k) (hk : r1.getD k default = r2.getD k default) : r1.take (k + 1) = r2.take (k + 1) := by
  rw [takeC r1 k h1, takeC r2 k h2, h, hk]
theorem ne_chg {r1 r2 : List Chg} {k : Nat} (hk : r1.getD k default ≠ r2.getD k default) : decide (r1 = r2) = false := decide_eq_false (fun e => hk (by rw [e]))

theorem run_append_none {w : World} (base : Nat) (t ty e : TypeId) (i : TypeInfo) (size c : Nat) (ht : Try.prog.underlying t = some (.slice e)) (hi : Try.prog.info? e = some i)
    (v : Value) (n : Nat) (xs : List Value) (hown : w.ownsRow base e size v n xs) : (Builtin.append_ #[t, t] ty #[v, .slice none 0 c]).run Try.prog w = .ok v w := by
  rcases hown.2 with ⟨rfl, rfl⟩ | ⟨g, cap, cur, rfl, _, _, hnc, _⟩
  · simp [Builtin.append_, run_underlying ht, sizeOf, typeInfo, hi, Builtin.lenOf, Builtin.firstCells]
  · simp [Builtin.append_, run_underlying ht, sizeOf, typeInfo, hi, Builtin.lenOf, Builtin.firstCells, hnc, storeCells]
theorem wpList_append_none {w : World} {ops : Array Oper} {rest : List Oper} {o : Oper} {a : Act} {Q : Exit → Act → World → Prop} (hgd : o.guard = none) (s x : Operand) (t : TypeId)
    (ho : o.op = .call { callee := .builtin .append, args := #[s, x], argTypes := #[t, t] }) (base : Nat) (e : TypeId) (i : TypeInfo) (size c : Nat) (ht : Try.prog.underlying t = some (.slice e)) (hi : Try.prog.info? e = some i)
    (v : Value) (n : Nat) (xs : List Value) (hs : a.eval s = v) (hown : w.ownsRow base e size v n xs) (hx : a.eval x = .slice none 0 c)
    (h : wpList Try.prog ops Q rest (a.put o.dst v) w) : wpList Try.prog ops Q (o :: rest) a w := by
  refine wpList_plain hgd fun K hK => ?_
  have hrun := run_append_none (w := w) base t o.type e i size c ht hi v n xs hown
  unfold Oper.wp
  simp [execOp, ho, resolve, invoke, builtin, hs, hx, hrun, Result.andThen]
  exact hK _ _ h
theorem add_at (b off j : Nat) : (⟨b, off, none⟩ : Addr).add j = ⟨b, off + j, none⟩ := by unfold Addr.add; split <;> simp_all
theorem rowAt_cells {w : World} {b off : Nat} {r : List Cel} (h : vl.rowAt w (some ⟨b, off, none⟩) r) : ∀ j u, (celCells r)[j]? = some u → w.cell? ((⟨b, off, none⟩ : Addr).add j) = some u := by
  intro j u hu
  have hlen : j < (celCells r).length := by
    rcases Nat.lt_or_ge j (celCells r).length with h | h
    · exact h
    · rw [List.getElem?_eq_none h] at hu; cases hu
  rw [celCells_len] at hlen
  have hi : j / 3 < r.length := by omega
  obtain ⟨b', o', e, x1, x2, x3⟩ := h (j / 3) hi
  cases e
  obtain ⟨y1, y2, y3⟩ := celCells_at r (j / 3) hi
  rw [add_at]
  have hj : j = j / 3 * 3 ∨ j = j / 3 * 3 + 1 ∨ j = j / 3 * 3 + 1 + 1 := by omega
  rcases hj with e | e | e
  · rw [e] at hu ⊢; rw [y1] at hu; rw [← hu]; exact x1
  · rw [e] at hu ⊢; rw [y2] at hu; rw [← hu]; exact x2
  · rw [e] at hu ⊢; rw [y3] at hu; rw [← hu]; exact x3
theorem celCells_one (r : List Cel) : ∀ u ∈ celCells r, u.oneCell' = true := by
  intro u hu
  unfold celCells at hu
  obtain ⟨c, _, hc⟩ := List.mem_flatMap.1 hu
  simp at hc
  rcases hc with rfl | rfl | rfl <;> rfl

set_option maxHeartbeats 1000000 in
theorem copy_any (a : Option Addr) (cap : Nat) (r : List Cel) (w : World) (hr : vl.rowAt w a r) (hl : r.length ≤ 1000000) :
    Calls Try.prog 36 #[.slice a r.length cap] w fun e w' => (∃ ad c, e = .returned (.slice ad r.length c) ∧ ownV w' w.heap.size (.slice ad r.length c) r) ∧ Below w.heap.size w w' := by
  obtain ⟨i0, hi, hz0, hz1, hz2⟩ := info_parts Try.infoV
  have HI : Hid (Try.prog.info? 55 = some i0 ∧ i0.zero = some (.agg #[.int .i64 0, .int .i64 0, .string ⟨#[]⟩]) ∧ i0.size = 3 ∧ i0.bytes = 32) := ⟨hi, hz0, hz1, hz2⟩
  clear hi hz0 hz1 hz2
  have HOW : Hid ((w.alloc (.cells #[] 55)).ownsRow w.heap.size 55 3 (.slice (some ⟨w.heap.size, 0, none⟩) 0 0) 0 []) := World.ownsRow_made w #[] 0 (Nat.le_refl _) (Nat.zero_le _) rfl
  have hb0 : Below w.heap.size w (w.alloc (.cells #[] 55)) := (Below.refl _ _).alloc (Nat.le_refl _) _
  obtain ⟨n, hn⟩ : ∃ n, r.length = n := ⟨_, rfl⟩
  have HN : Hid (r.length = n) := hn
  cases a with
  | none =>
    have h0 : r = [] := by
      cases r with
      | nil => rfl
      | cons c r =>
        obtain ⟨_, _, e, _⟩ := hr 0 (by simp)
        cases e
    subst h0
    simp only [List.length_nil]
    clear hr hl hn HN
    go_enter Try.func36, Try.ntmps36
    go_wp2_with (at_builtin; refine wpList_append_none rfl (.tmp 3) (.tmp 4) 49 rfl w.heap.size 55 i0 3 cap Try.underlying49 HI.out.1 _ _ _ rfl HOW.out rfl ?_)
    go_ret
    exact ⟨⟨_, _, rfl, HOW.out⟩, hb0⟩
  | some x =>
    have hcel : ∀ j u, (celCells r)[j]? = some u → (w.alloc (.cells #[] 55)).cell? (x.add j) = some u := by
      intro j u hu
      have hlen : 0 < r.length := by
        rcases Nat.eq_zero_or_pos r.length with h | h
        · rw [List.length_eq_zero_iff.1 h] at hu; cases hu
        · exact h
      obtain ⟨b, o, e, _⟩ := hr 0 hlen
      cases e
      exact cell_later ((Below.refl _ _).alloc (Nat.le_refl _) _) (rowAt_cells hr j u hu)
    have HCE : Hid (∀ j u, (celCells r)[j]? = some u → (w.alloc (.cells #[] 55)).cell? (x.add j) = some u) := hcel
    rw [hn] at hl ⊢
    clear hcel hr hn
    go_enter Try.func36, Try.ntmps36
    go_wp2_with (at_builtin; refine wpList_append_own _ rfl (.tmp 3) (.tmp 4) 49 rfl w.heap.size 55 i0 (.agg #[.int .i64 0, .int .i64 0, .string ⟨#[]⟩]) 3 32 Try.underlying49 HI.out.1 HI.out.2.1 HI.out.2.2.1 HI.out.2.2.2 rfl (by decide) _ _ _ rfl HOW.out x n cap (celCells r) rfl (by rw [celCells_len, HN.out]) HCE.out (celCells_one r) (by unfold maxLen; omega) (by omega) (by simp) ?_; intro v2 w3 hown3 hgrow3 hnil3)
    rw [Nat.zero_add, List.nil_append] at hown3
    obtain ⟨ad, c2, hv, _⟩ := row_form hown3
    subst hv
    go_ret
    exact ⟨⟨ad, c2, rfl, by show w3.ownsRow _ _ _ _ r.length _; rw [HN.out]; exact hown3⟩, hb0.grown hgrow3 (by simp) (fun b hb => by cases hb; exact Nat.le_refl _)⟩
end Go.Proofs.Ytkjiaeolodemlaf.ch

/- SameChanges: are two lists of changes the same? -/
namespace Go.Proofs.Ytkjiaeolodemlaf.ch
open Go.ChangeShapes Go.WideShapes Go.ChangeAt Go.RowKit Go.Maps Go.WideMaps
open vl
set_option linter.unusedVariables false
set_option linter.unusedSimpArgs false

set_option maxHeartbeats 4000000 in
theorem sameChanges_any (a1 a2 : Option Addr) (c1 c2 : Nat) (r1 r2 : List Chg) (w : World) (h1 : chgsAt w a1 r1) (h2 : chgsAt w a2 r2) (x1 : wfChgs r1) (x2 : wfChgs r2) (l1 : r1.length ≤ 9223372036854775807) (l2 : r2.length ≤ 9223372036854775807) :
    Calls Try.prog 11 #[.slice a1 r1.length c1, .slice a2 r2.length c2] w fun e w' => e = .returned (.bool (decide (r1 = r2))) ∧ Below w.heap.size w w' := by
  by_cases hl : r1.length = r2.length
  · obtain ⟨len, hlen⟩ : ∃ len, r1.length = len := ⟨_, rfl⟩
    have hlen2 : r2.length = len := by omega
    rw [hlen] at l1
    have HR : Hid (r1.length = len) := hlen
    have HR2 : Hid (r2.length = len) := hlen2
    rw [hlen, hlen2]
    clear hl l2 hlen hlen2
    go_enter Try.func11, Try.ntmps11
    go_wp2
    go_loopw [5] (fun i wr => ∃ k : Nat, k ≤ len ∧ i = .int .i64 k ∧ Below w.heap.size w wr ∧ r1.take k = r2.take k) (fun i _ => len - (intOf i).toNat)
    case atStart => exact ⟨0, Nat.zero_le _, rfl, Below.refl _ _, rfl⟩
    case round =>
      obtain ⟨k, hk, rfl, hnx, hall⟩ := hrel
      have HA : Hid (r1.take k = r2.take k) := hall
      clear hall
      by_cases hlt : k < len
      · have hk1 : k < r1.length := by rw [HR.out]; exact hlt
        have hk2 : k < r2.length := by rw [HR2.out]; exact hlt
        obtain ⟨b1, o1, ra1, rc1, e1, p1, p2, p3⟩ := h1 k hk1
        obtain ⟨b2, o2, ra2, rc2, e2, y1, y2, y3⟩ := h2 k hk2
        subst e1 e2
        have z1 := (wfc_at x1 k hk1).2.1
        have z2 := (wfc_at x2 k hk2).2.1
        have q1 := cell_later hnx p2
        have HQ2 : Hid (vl.rowAt wr ra1 (r1.getD k default).r) := rowAt_below p3 hnx
        have q3 := cell_later hnx p1
        have s1 := cell_later hnx y2
        have HS2 : Hid (vl.rowAt wr ra2 (r2.getD k default).r) := rowAt_below y3 hnx
        have s3 := cell_later hnx y1
        clear p1 p2 p3 y1 y2 y3 h1 h2
        have HNE : Hid (r1.getD k default ≠ r2.getD k default → decide (r1 = r2) = false) := ne_chg
        have HEQ : Hid (r1.getD k default = r2.getD k default → r1.take (k + 1) = r2.take (k + 1)) := take_eq_chg hk1 hk2 HA.out
        obtain ⟨⟨na, ra⟩, hca⟩ : ∃ c, r1.getD k default = c := ⟨_, rfl⟩
        obtain ⟨⟨nb, rb⟩, hcb⟩ : ∃ c, r2.getD k default = c := ⟨_, rfl⟩
        rw [hca] at q1 q3 HQ2 HNE HEQ z1
        rw [hcb] at s1 s3 HS2 HNE HEQ z2
        clear hca hcb
        dsimp only at q1 q3 s1 s3 HQ2 HS2 z1 z2
        obtain ⟨la, hla⟩ : ∃ x, ra.length = x := ⟨_, rfl⟩
        obtain ⟨lb, hlb⟩ : ∃ x, rb.length = x := ⟨_, rfl⟩
        have KS : Hid (∀ w', Below wr.heap.size wr w' → Calls Try.prog 28 #[.slice ra1 la rc1, .slice ra2 lb rc2] w' fun e w'' => e = .returned (.bool (decide (ra = rb))) ∧ Below w'.heap.size w' w'') := fun w' hb => by
          rw [← hla, ← hlb]; exact same_any ra1 ra2 rc1 rc2 ra rb w' (rowAt_below HQ2.out hb) (rowAt_below HS2.out hb) z1 z2
        rw [hla] at q1
        rw [hlb] at s1
        clear hla hlb z1 z2
        have i1 : (0 : Int) ≤ (k : Int) := by omega
        have i2 : (k : Int) < (len : Int) := by omega
        have dr : Below wr.heap.size wr wr.drew := (Below.refl _ _).drew
        by_cases t1 : na = nb
        · subst t1
          by_cases t2 : ra = rb
          · have HE : Hid (r1.take (k + 1) = r2.take (k + 1)) := HEQ.out (by rw [t2])
            rw [decide_eq_true t2] at KS
            go_wp2
            go_region_held3 (fun w' => w'.cell? ⟨b1, o1 + k * 2 + 1, none⟩ = some (.slice ra1 la rc1) ∧ w'.cell? ⟨b2, o2 + k * 2 + 1, none⟩ = some (.slice ra2 lb rc2) ∧ w'.cell? ⟨b1, o1 + k * 2, none⟩ = some (.int .i64 na) ∧ w'.cell? ⟨b2, o2 + k * 2, none⟩ = some (.int .i64 na)) (first | go_keep | exact ⟨cell_later hbq q1, cell_later hbq s1, cell_later hbq q3, cell_later hbq s3⟩)
              (first | (go_at_call 28; refine (KS.out wr.drew dr).mono ?_; rintro e wq ⟨rfl, hbq⟩))
            all_goals
              have hlq : Below w.heap.size w wq := hnx.drew.trans (hbq.mono hnx.size)
              go_wp2
              go_roundw
              case rel => exact ⟨k + 1, by omega, by go_num, hlq, HE.out⟩
              case measure => simp [intOf]; omega
          · have HE : Hid (decide (r1 = r2) = false) := HNE.out (fun e => t2 (by cases e; rfl))
            rw [decide_eq_false t2] at KS
            go_wp2
            go_region_held3 (fun w' => w'.cell? ⟨b1, o1 + k * 2 + 1, none⟩ = some (.slice ra1 la rc1) ∧ w'.cell? ⟨b2, o2 + k * 2 + 1, none⟩ = some (.slice ra2 lb rc2) ∧ w'.cell? ⟨b1, o1 + k * 2, none⟩ = some (.int .i64 na) ∧ w'.cell? ⟨b2, o2 + k * 2, none⟩ = some (.int .i64 na)) (first | go_keep | exact ⟨cell_later hbq q1, cell_later hbq s1, cell_later hbq q3, cell_later hbq s3⟩)
              (first | (go_at_call 28; refine (KS.out wr.drew dr).mono ?_; rintro e wq ⟨rfl, hbq⟩))
            all_goals
              have hlq : Below w.heap.size w wq := hnx.drew.trans (hbq.mono hnx.size)
              go_wp2
              go_ret
              exact ⟨ret_bool HE.out.symm, hlq⟩
        · have t1' : (na == nb) = false := by simpa using t1
          have t1n : ∀ t, binOp .neq t (.int .i64 na) (.int .i64 nb) = pure (.bool true) := fun t => by rw [binOp_neq, show (na != nb) = true by simpa using t1]
          have HE : Hid (decide (r1 = r2) = false) := HNE.out (fun e => t1 (by cases e; rfl))
          go_wp2
          go_quiet (fail)
          have hld := below_drewN hnx nq
          go_wp2
          go_ret
          exact ⟨ret_bool HE.out.symm, hld⟩
      · have HT : Hid (decide (r1 = r2) = true) := decide_eq_true (by
          have h := HA.out
          rw [List.take_of_length_le (by rw [HR.out]; omega), List.take_of_length_le (by rw [HR2.out]; omega)] at h
          exact h)
        go_wp2
        go_ret
        exact ⟨ret_bool HT.out.symm, hnx⟩
  · have hl' : ((r1.length : Int) == (r2.length : Int)) = false := by rw [beq_eq_false_iff_ne]; omega
    have HE : Hid (decide (r1 = r2) = false) := decide_eq_false (fun e => hl (by rw [e]))
    obtain ⟨n1, hn1⟩ : ∃ x, r1.length = x := ⟨_, rfl⟩
    obtain ⟨n2, hn2⟩ : ∃ x, r2.length = x := ⟨_, rfl⟩
    rw [hn1, hn2] at hl'
    rw [hn1, hn2]
    rw [hn1] at l1
    rw [hn2] at l2
    go_enter Try.func11, Try.ntmps11
    go_wp2
    go_ret
    exact ⟨ret_bool HE.out.symm, Below.refl _ _⟩
end Go.Proofs.Ytkjiaeolodemlaf.ch

/- The document's told: Deletes, and Inserts, of rows that rise, each so often. -/
namespace Go.Proofs.Ytkjiaeolodemlaf.ch
open Go.ChangeShapes Go.WideShapes Go.ChangeAt Go.RowKit Go.Maps Go.WideMaps
open vl
set_option linter.unusedVariables false
set_option linter.unusedSimpArgs false

/-- rows in memory, and numbers -/
def rowsAt (w : World) (a : Option Addr) (l : List Cnt) : Prop := ∀ i, i < l.length → ∃ b off ra rc, a = some ⟨b, off, none⟩ ∧ w.cell? ⟨b, off + i, none⟩ = some (.slice ra (l.getD i default).r.length rc) ∧ vl.rowAt w ra (l.getD i default).r
def numsAt (w : World) (a : Option Addr) (l : List Cnt) : Prop := ∀ i, i < l.length → ∃ b off, a = some ⟨b, off, none⟩ ∧ w.cell? ⟨b, off + i, none⟩ = some (.int .i64 (l.getD i default).n)
theorem rowsAt_below {w w' : World} {a : Option Addr} {l : List Cnt} (h : rowsAt w a l) (hb : Below w.heap.size w w') : rowsAt w' a l := by
  intro i hi
  obtain ⟨b, o, ra, rc, e, x1, x2⟩ := h i hi
  exact ⟨b, o, ra, rc, e, cell_later hb x1, rowAt_below x2 hb⟩
theorem numsAt_below {w w' : World} {a : Option Addr} {l : List Cnt} (h : numsAt w a l) (hb : Below w.heap.size w w') : numsAt w' a l := by
  intro i hi
  obtain ⟨b, o, e, x1⟩ := h i hi
  exact ⟨b, o, e, cell_later hb x1⟩
/-- the changes of one turn -/
def turnL (t : Int) (l : List Cnt) : List Chg := l.flatMap fun c => List.replicate (c.n * t).toNat ⟨if t < 0 then 2 else 1, c.r⟩
theorem turn_neg (l : List Cnt) : turnL (-1) l = dels l := by
  unfold turnL dels
  congr 1
  funext c
  rw [show c.n * -1 = -c.n by omega]
  rfl
theorem turn_pos (l : List Cnt) : turnL 1 l = inss l := by
  unfold turnL inss
  congr 1
  funext c
  rw [Int.mul_one]
  rfl
theorem turn_snoc (t : Int) (l : List Cnt) (c : Cnt) : turnL t (l ++ [c]) = turnL t l ++ List.replicate (c.n * t).toNat ⟨if t < 0 then 2 else 1, c.r⟩ := by
  unfold turnL; rw [List.flatMap_append]; simp
theorem turn_take (t : Int) (l : List Cnt) (k : Nat) : ∃ m, turnL t l = turnL t (l.take k) ++ m := by
  refine ⟨turnL t (l.drop k), ?_⟩
  unfold turnL
  rw [← List.flatMap_append, List.take_append_drop]
/-- what told answers -/
def toldRes (l : List Cnt) (e : Ending) (w' : World) : Prop :=
  (4096 < (madeL l).length ∧ e = .returned (.tuple #[.slice none 0 0, .bool false])) ∨
  ((madeL l).length ≤ 4096 ∧ ∃ ad cap, e = .returned (.tuple #[.slice ad (madeL l).length cap, .bool true]) ∧ chgsAt w' ad (madeL l))
/-- the front of what told has made: so many turns, rows and times -/
def frontL (t : Int) (l : List Cnt) (i k : Nat) : List Chg := (if t = -1 then [] else dels l) ++ turnL t (l.take i) ++ List.replicate k ⟨if t < 0 then 2 else 1, (l.getD i default).r⟩

theorem wpList_appC {ops : Array Oper} {rest : List Oper} {o : Oper} {a : Act} {Q : Exit → Act → World → Prop} (hgd : o.guard = none) (s x : Operand)
    (hop : o.op = .call { callee := .builtin .append, args := #[s, x], argTypes := #[23, 23] })
    (base : Nat) (v : Value) (l : List (Int × Value)) (n : Int) (ad : Option Addr) (rl cap : Nat) (w1 : World) (ln : Nat) (hln : l.length = ln) (ho : w1.ownsRow base 58 2 v ln (flatC l)) (hl : ln ≤ 1000000000) (hb : base ≤ w1.heap.size)
    (hs : a.eval s = v) (hx : a.eval x = .slice (some ⟨w1.heap.size, 0, none⟩) 1 1)
    (h : ∀ g cap2 w2, w2.ownsRow base 58 2 (.slice (some ⟨g, 0, none⟩) (ln + 1) cap2) (ln + 1) (flatC (l ++ [(n, .slice ad rl cap)])) → (w1.alloc (.cells #[.int .i64 n, .slice ad rl cap] 58)).grownBy w2 v.ownBlock → (v.ownBlock = some g ∨ g = w1.heap.size + 1) → g < w2.heap.size → wpList Try.prog ops Q rest (a.put o.dst (.slice (some ⟨g, 0, none⟩) (ln + 1) cap2)) w2) :
    wpList Try.prog ops Q (o :: rest) a (w1.alloc (.cells #[.int .i64 n, .slice ad rl cap] 58)) := by
  obtain ⟨i0, hi, hz0, hz1, hz2⟩ := info_parts infoG
  refine wpList_append_lies _ hgd s x 23 hop base 58 i0 (.agg #[.int .i64 0, .slice none 0 0]) 2 32 Try.underlying23 hi hz0 hz1 hz2 rfl (by decide) v ln (flatC l) hs
    (ho.alloc _) ⟨w1.heap.size, 0, none⟩ 1 1 [.int .i64 n, .slice ad rl cap] hx rfl (cell_two_new _ _ _ _) (by intro u hu; simp at hu; rcases hu with rfl | rfl <;> rfl) (by decide) (by unfold maxLen; omega) (by omega) (by simp; omega) (w1.heap.size + 1) (by simp) ?_
  intro g cap2 w2 h2 h3 h4 h5
  exact h g cap2 w2 (by rw [flatC_snoc]; exact h2) h3 h4 h5
theorem drew_below {w w1 : World} (h : Below w.heap.size w w1) : Below w.drew.heap.size w.drew w1 := ⟨h.os, h.tape, h.output, h.size, h.block⟩
/-- a front is no longer than the whole -/
theorem front_neg (l : List Cnt) (j : Nat) (hj : j < l.length) (q : Nat) (hq : q ≤ ((l.getD j default).n * -1).toNat) : (dels (l.take j)).length + q ≤ (madeL l).length := by
  have h1 := dels_take l (j + 1)
  rw [takeV l j hj, dels_snoc, List.length_append, List.length_replicate] at h1
  unfold madeL
  rw [List.length_append]
  omega
theorem front_pos (l : List Cnt) (j : Nat) (hj : j < l.length) (q : Nat) (hq : q ≤ ((l.getD j default).n * 1).toNat) : (dels l).length + (inss (l.take j)).length + q ≤ (madeL l).length := by
  have h1 := inss_take l (j + 1)
  rw [takeV l j hj, inss_snoc, List.length_append, List.length_replicate] at h1
  unfold madeL
  rw [List.length_append]
  omega
theorem OS_len {w : World} {base : Nat} {v : Value} {l : List Chg} (h : OS w base v l) : ∃ ad cap, v = .slice ad l.length cap := by
  obtain ⟨p, h1, h2, _⟩ := h.r
  obtain ⟨ad, cap, hv, _⟩ := row_form h2
  exact ⟨ad, cap, by rw [hv, h1]⟩
theorem ret_told {ad : Option Addr} {cap a b : Nat} (h : a = b) : Ending.returned (.tuple #[.slice ad a cap, .bool true]) = .returned (.tuple #[.slice ad b cap, .bool true]) := by rw [h]

set_option maxRecDepth 100000 in
set_option maxHeartbeats 8000000 in
theorem told_any (a b : Option Addr) (ca cb : Nat) (l : List Cnt) (w : World) (hra : rowsAt w a l) (hnb : numsAt w b l) (hok : ∀ c ∈ l, rowOk c.r) (hcn : ∀ c ∈ l, -10000000000 ≤ c.n ∧ c.n ≤ 10000000000) (hl : l.length ≤ 1000000) :
    Calls Try.prog 26 #[.slice a l.length ca, .slice b l.length cb] w fun e w' => toldRes l e w' ∧ Below w.heap.size w w' := by
  obtain ⟨n, hn⟩ : ∃ n, l.length = n := ⟨_, rfl⟩
  have HN : Hid (l.length = n) := hn
  have HRA : Hid (rowsAt w a l) := hra
  have HNB : Hid (numsAt w b l) := hnb
  have HOK : Hid (∀ c ∈ l, rowOk c.r) := hok
  have HCN : Hid (∀ c ∈ l, -10000000000 ≤ c.n ∧ c.n ≤ 10000000000) := hcn
  rw [hn] at hl ⊢
  clear hra hnb hok hcn hn
  go_enter Try.func26, Try.ntmps26
  go_wp2
  go_loopw [6, 7] (fun v t wr => ∃ x : Int, t = .int .i64 x ∧ ((x = -1 ∧ OS wr w.heap.size v []) ∨ (x = 1 ∧ OS wr w.heap.size v (dels l) ∧ (dels l).length ≤ 4096) ∨ (x = 3 ∧ OS wr w.heap.size v (madeL l) ∧ (madeL l).length ≤ 4096)) ∧ Below w.heap.size w wr) (fun _ t _ => (3 - intOf t).toNat)
  case atStart => exact ⟨-1, rfl, .inl ⟨rfl, Nat.le_refl _, [], rfl, World.ownsRow_nil _ _ _ _, fun i hi => absurd hi (Nat.not_lt_zero i)⟩, Below.refl _ _⟩
  case round =>
    obtain ⟨x, rfl, hx, hnx⟩ := hrel
    obtain ⟨wo, hwo⟩ : ∃ z, z = wr := ⟨_, rfl⟩
    subst hwo
    rcases hx with ⟨rfl, hos⟩ | ⟨rfl, hos, hdl⟩ | ⟨rfl, hos, hml⟩
    · have HOS : Hid (OS wo w.heap.size u6 []) := hos
      clear hos
      go_wp2
      go_loopw [6, 8] (fun v i wr => ∃ j : Nat, j ≤ n ∧ i = .int .i64 j ∧ OS wr w.heap.size v (dels (l.take j)) ∧ (dels (l.take j)).length ≤ 4096 ∧ Below w.heap.size w wr) (fun _ i _ => n - (intOf i).toNat)
      case atStart => exact ⟨0, Nat.zero_le _, rfl, by simpa [dels] using HOS.out, by simp [dels], hnx⟩
      case round =>
        obtain ⟨j, hj, rfl, hos2, hlen2, hnx2⟩ := hrel
        obtain ⟨wm, hwm⟩ : ∃ z, z = wr := ⟨_, rfl⟩
        subst hwm
        have HO2 : Hid (OS wm w.heap.size u6 (dels (l.take j))) := hos2
        have HL2 : Hid ((dels (l.take j)).length ≤ 4096) := hlen2
        clear hos2 hlen2
        by_cases hjn : j < n
        · have hjl : j < l.length := by rw [HN.out]; exact hjn
          obtain ⟨ba, oa, ra, rc, e, x1, x2⟩ := HRA.out j hjl
          subst e
          obtain ⟨bb, ob, e, y1⟩ := HNB.out j hjl
          subst e
          have HRK : Hid (rowOk (l.getD j default).r) := HOK.out _ (mem_getD hjl)
          have hcb := HCN.out _ (mem_getD hjl)
          have HFR := front_neg l j hjl
          have HTK : Hid (dels (l.take (j + 1)) = dels (l.take j) ++ List.replicate ((l.getD j default).n * -1).toNat ⟨2, (l.getD j default).r⟩) := by
            show dels (l.take (j + 1)) = _
            rw [takeV l j hjl, dels_snoc, show (l.getD j default).n * -1 = -(l.getD j default).n by omega]
          have HR0 : Hid (vl.rowAt w ra (l.getD j default).r) := x2
          obtain ⟨⟨r, nj⟩, hcv⟩ : ∃ c, l.getD j default = c := ⟨_, rfl⟩
          rw [hcv] at x1 y1 HRK hcb HFR HTK HR0
          dsimp only at x1 y1 HRK hcb HFR HTK HR0
          clear hcv x2
          have hmul : IntKind.i64.wrap (nj * -1) = nj * -1 := by rw [wrap_is]; omega
          obtain ⟨d, hd⟩ : ∃ z, (nj * -1).toNat = z := ⟨_, rfl⟩
          rw [hd] at HFR HTK
          have hd1 : nj * -1 ≤ (d : Int) := by omega
          have hd2 : (d : Int) ≤ nj * -1 ∨ d = 0 := by omega
          obtain ⟨pm, hpm⟩ : ∃ z, nj * -1 = z := ⟨_, rfl⟩
          rw [hpm] at hmul hd1 hd2
          have hpm2 : nj * -1 = pm := hpm
          clear hd hpm
          obtain ⟨rl, hrl⟩ : ∃ z, r.length = z := ⟨_, rfl⟩
          have HRL : Hid (r.length = rl) := hrl
          rw [hrl] at x1
          have KC : Hid (∀ w1, Below w.heap.size w w1 → Calls Try.prog 36 #[.slice ra rl rc] w1 fun e w' => (∃ ad c, e = .returned (.slice ad rl c) ∧ ownV w' w1.heap.size (.slice ad rl c) r) ∧ Below w1.heap.size w1 w') := fun w1 hb => by
            rw [← hrl]; exact copy_any ra rc r w1 (rowAt_below HR0.out hb) (by have := HRK.out.1; omega)
          clear hrl
          have i1 : (0 : Int) ≤ (j : Int) := by omega
          have i2 : (j : Int) < (n : Int) := by omega
          go_wp2
          go_loopw [6, 10] (fun v k wr => ∃ q : Nat, q ≤ d ∧ k = .int .i64 q ∧ OS wr w.heap.size v (dels (l.take j) ++ List.replicate q ⟨2, r⟩) ∧ (dels (l.take j) ++ List.replicate q (⟨2, r⟩ : Chg)).length ≤ 4096 ∧ Below w.heap.size w wr) (fun _ k _ => d - (intOf k).toNat)
          case atStart => exact ⟨0, Nat.zero_le _, rfl, by simpa using HO2.out, by simpa using HL2.out, hnx2⟩
          case round =>
            obtain ⟨q, hq, rfl, hos3, hlen3, hnx3⟩ := hrel
            have HO3 : Hid (OS wr w.heap.size u6 (dels (l.take j) ++ List.replicate q ⟨2, r⟩)) := hos3
            have HL3 : Hid ((dels (l.take j) ++ List.replicate q (⟨2, r⟩ : Chg)).length ≤ 4096) := hlen3
            have z1 := cell_later hnx3 x1
            have z2 := cell_later hnx3 y1
            obtain ⟨oa2, oc2, hv6⟩ := OS_len hos3
            subst hv6
            obtain ⟨p, hpl, hpo, hpr⟩ := hos3.r
            have HPL : Hid (p.length = (dels (l.take j) ++ List.replicate q (⟨2, r⟩ : Chg)).length) := hpl
            obtain ⟨pn, hpn⟩ : ∃ z, (dels (l.take j) ++ List.replicate q (⟨2, r⟩ : Chg)).length = z := ⟨_, rfl⟩
            have HPN : Hid ((dels (l.take j) ++ List.replicate q (⟨2, r⟩ : Chg)).length = pn) := hpn
            rw [hpl] at hpo
            rw [hpn] at hpo HO3 hpr hlen3 ⊢
            have HPO : Hid (wr.ownsRow w.heap.size 58 2 (.slice oa2 pn oc2) pn (flatC p)) := hpo
            have HPR : Hid (rowsC wr w.heap.size (fun g => (Value.slice oa2 pn oc2).ownBlock = some g) p (dels (l.take j) ++ List.replicate q ⟨2, r⟩)) := hpr
            have hlow := HO3.out.low
            clear hos3 hpl hpo hpr hpn
            by_cases hqd : q < d
            · have hqI : (q : Int) < pm := by omega
              by_cases hfull : pn = 4096
              · subst hfull
                have HBIG : Hid (4096 < (madeL l).length) := by
                  show 4096 < (madeL l).length
                  have h1 := HFR (q + 1) (by omega)
                  have h2 := HPN.out
                  rw [List.length_append, List.length_replicate] at h2
                  
                  omega
                go_wp2
                go_ret2
                exact ⟨.inl ⟨HBIG.out, rfl⟩, hnx3⟩
              · have hfI : ((pn : Int) == 4096) = false := by rw [beq_eq_false_iff_ne]; omega
                go_wp2_with (first
                  | (go_at_call 36; refine (KC.out _ hnx3).mono ?_; rintro e w1 ⟨⟨ad, cap, rfl, hov⟩, hb1⟩; have HO1 : Hid (w1.ownsRow w.heap.size 58 2 (.slice oa2 pn oc2) pn (flatC p)) := own_below HPO.out hb1)
                  | (at_builtin; refine wpList_appC rfl (.tmp 36) (.tmp 44) rfl w.heap.size _ p 2 ad rl cap w1 pn (HPL.out.trans HPN.out) HO1.out (by omega) (Nat.le_trans hlow hb1.size) rfl rfl ?_; intro g cap2 w3 hown2 hgrow2 hat2 hlt2))
                have HST := OS_step (r := r) (n := 2) (ad := ad) (cap := cap) (g := g) (cap2 := cap2) (w1 := w1) (w2 := w3) HO3.out HPL.out (by rw [HPL.out, HPN.out]; exact HPO.out) HPR.out (drew_below hb1) (by rw [HRL.out]; exact hov) (by rw [HPL.out, HPN.out, HRL.out]; exact hown2) (by rw [HRL.out]; exact hgrow2) hat2
                rw [HPL.out, HPN.out] at HST
                go_roundw
                case rel => exact ⟨q + 1, by omega, by go_num, by rw [rep_snoc]; exact HST.1, by rw [rep_snoc, List.length_append, HPN.out, List.length_singleton]; omega, hnx3.trans HST.2⟩
                case measure => simp [intOf]; omega
            · have hqe : q = d := by omega
              subst hqe
              have hqI : ¬ (q : Int) < pm := by omega
              go_wp2
              go_roundw
              case rel => exact ⟨j + 1, by omega, by go_num, by rw [HTK.out]; exact HO3.out, by rw [HTK.out]; exact HL3.out, hnx3⟩
              case measure => simp [intOf]; omega
        · have HT : Hid (l.take j = l) := List.take_of_length_le (by rw [HN.out]; omega)
          rw [HT.out] at HO2 HL2
          go_wp2
          go_roundw
          case rel => exact ⟨1, rfl, .inr (.inl ⟨rfl, HO2.out, HL2.out⟩), hnx2⟩
          case measure => simp [intOf]
    · have HOS : Hid (OS wo w.heap.size u6 (dels l)) := hos
      clear hos
      go_wp2
      go_loopw [6, 8] (fun v i wr => ∃ j : Nat, j ≤ n ∧ i = .int .i64 j ∧ OS wr w.heap.size v (dels l ++ inss (l.take j)) ∧ (dels l ++ inss (l.take j)).length ≤ 4096 ∧ Below w.heap.size w wr) (fun _ i _ => n - (intOf i).toNat)
      case atStart => exact ⟨0, Nat.zero_le _, rfl, by simpa [dels, inss] using HOS.out, by simpa [dels, inss] using hdl, hnx⟩
      case round =>
        obtain ⟨j, hj, rfl, hos2, hlen2, hnx2⟩ := hrel
        obtain ⟨wm, hwm⟩ : ∃ z, z = wr := ⟨_, rfl⟩
        subst hwm
        have HO2 : Hid (OS wm w.heap.size u6 (dels l ++ inss (l.take j))) := hos2
        have HL2 : Hid ((dels l ++ inss (l.take j)).length ≤ 4096) := hlen2
        clear hos2 hlen2
        by_cases hjn : j < n
        · have hjl : j < l.length := by rw [HN.out]; exact hjn
          obtain ⟨ba, oa, ra, rc, e, x1, x2⟩ := HRA.out j hjl
          subst e
          obtain ⟨bb, ob, e, y1⟩ := HNB.out j hjl
          subst e
          have HRK : Hid (rowOk (l.getD j default).r) := HOK.out _ (mem_getD hjl)
          have hcb := HCN.out _ (mem_getD hjl)
          have HFR := front_pos l j hjl
          have HTK : Hid (dels l ++ inss (l.take (j + 1)) = dels l ++ inss (l.take j) ++ List.replicate ((l.getD j default).n * 1).toNat ⟨1, (l.getD j default).r⟩) := by
            show dels l ++ inss (l.take (j + 1)) = _
            rw [takeV l j hjl, inss_snoc, List.append_assoc, show (l.getD j default).n * 1 = (l.getD j default).n by omega]
          have HR0 : Hid (vl.rowAt w ra (l.getD j default).r) := x2
          obtain ⟨⟨r, nj⟩, hcv⟩ : ∃ c, l.getD j default = c := ⟨_, rfl⟩
          rw [hcv] at x1 y1 HRK hcb HFR HTK HR0
          dsimp only at x1 y1 HRK hcb HFR HTK HR0
          clear hcv x2
          have hmul : IntKind.i64.wrap (nj * 1) = nj * 1 := by rw [wrap_is]; omega
          obtain ⟨d, hd⟩ : ∃ z, (nj * 1).toNat = z := ⟨_, rfl⟩
          rw [hd] at HFR HTK
          have hd1 : nj * 1 ≤ (d : Int) := by omega
          have hd2 : (d : Int) ≤ nj * 1 ∨ d = 0 := by omega
          obtain ⟨pm, hpm⟩ : ∃ z, nj * 1 = z := ⟨_, rfl⟩
          rw [hpm] at hmul hd1 hd2
          have hpm2 : nj * 1 = pm := hpm
          clear hd hpm
          obtain ⟨rl, hrl⟩ : ∃ z, r.length = z := ⟨_, rfl⟩
          have HRL : Hid (r.length = rl) := hrl
          rw [hrl] at x1
          have KC : Hid (∀ w1, Below w.heap.size w w1 → Calls Try.prog 36 #[.slice ra rl rc] w1 fun e w' => (∃ ad c, e = .returned (.slice ad rl c) ∧ ownV w' w1.heap.size (.slice ad rl c) r) ∧ Below w1.heap.size w1 w') := fun w1 hb => by
            rw [← hrl]; exact copy_any ra rc r w1 (rowAt_below HR0.out hb) (by have := HRK.out.1; omega)
          clear hrl
          have i1 : (0 : Int) ≤ (j : Int) := by omega
          have i2 : (j : Int) < (n : Int) := by omega
          go_wp2
          go_loopw [6, 10] (fun v k wr => ∃ q : Nat, q ≤ d ∧ k = .int .i64 q ∧ OS wr w.heap.size v (dels l ++ inss (l.take j) ++ List.replicate q ⟨1, r⟩) ∧ (dels l ++ inss (l.take j) ++ List.replicate q (⟨1, r⟩ : Chg)).length ≤ 4096 ∧ Below w.heap.size w wr) (fun _ k _ => d - (intOf k).toNat)
          case atStart => exact ⟨0, Nat.zero_le _, rfl, by simpa using HO2.out, by simpa using HL2.out, hnx2⟩
          case round =>
            obtain ⟨q, hq, rfl, hos3, hlen3, hnx3⟩ := hrel
            have HO3 : Hid (OS wr w.heap.size u6 (dels l ++ inss (l.take j) ++ List.replicate q ⟨1, r⟩)) := hos3
            have HL3 : Hid ((dels l ++ inss (l.take j) ++ List.replicate q (⟨1, r⟩ : Chg)).length ≤ 4096) := hlen3
            have z1 := cell_later hnx3 x1
            have z2 := cell_later hnx3 y1
            obtain ⟨oa2, oc2, hv6⟩ := OS_len hos3
            subst hv6
            obtain ⟨p, hpl, hpo, hpr⟩ := hos3.r
            have HPL : Hid (p.length = (dels l ++ inss (l.take j) ++ List.replicate q (⟨1, r⟩ : Chg)).length) := hpl
            obtain ⟨pn, hpn⟩ : ∃ z, (dels l ++ inss (l.take j) ++ List.replicate q (⟨1, r⟩ : Chg)).length = z := ⟨_, rfl⟩
            have HPN : Hid ((dels l ++ inss (l.take j) ++ List.replicate q (⟨1, r⟩ : Chg)).length = pn) := hpn
            rw [hpl] at hpo
            rw [hpn] at hpo HO3 hpr hlen3 ⊢
            have HPO : Hid (wr.ownsRow w.heap.size 58 2 (.slice oa2 pn oc2) pn (flatC p)) := hpo
            have HPR : Hid (rowsC wr w.heap.size (fun g => (Value.slice oa2 pn oc2).ownBlock = some g) p (dels l ++ inss (l.take j) ++ List.replicate q ⟨1, r⟩)) := hpr
            have hlow := HO3.out.low
            clear hos3 hpl hpo hpr hpn
            by_cases hqd : q < d
            · have hqI : (q : Int) < pm := by omega
              by_cases hfull : pn = 4096
              · subst hfull
                have HBIG : Hid (4096 < (madeL l).length) := by
                  show 4096 < (madeL l).length
                  have h1 := HFR (q + 1) (by omega)
                  have h2 := HPN.out
                  rw [List.length_append, List.length_replicate] at h2
                  rw [List.length_append] at h2
                  omega
                go_wp2
                go_ret2
                exact ⟨.inl ⟨HBIG.out, rfl⟩, hnx3⟩
              · have hfI : ((pn : Int) == 4096) = false := by rw [beq_eq_false_iff_ne]; omega
                go_wp2_with (first
                  | (go_at_call 36; refine (KC.out _ hnx3).mono ?_; rintro e w1 ⟨⟨ad, cap, rfl, hov⟩, hb1⟩; have HO1 : Hid (w1.ownsRow w.heap.size 58 2 (.slice oa2 pn oc2) pn (flatC p)) := own_below HPO.out hb1)
                  | (at_builtin; refine wpList_appC rfl (.tmp 36) (.tmp 44) rfl w.heap.size _ p 1 ad rl cap w1 pn (HPL.out.trans HPN.out) HO1.out (by omega) (Nat.le_trans hlow hb1.size) rfl rfl ?_; intro g cap2 w3 hown2 hgrow2 hat2 hlt2))
                have HST := OS_step (r := r) (n := 1) (ad := ad) (cap := cap) (g := g) (cap2 := cap2) (w1 := w1) (w2 := w3) HO3.out HPL.out (by rw [HPL.out, HPN.out]; exact HPO.out) HPR.out (drew_below hb1) (by rw [HRL.out]; exact hov) (by rw [HPL.out, HPN.out, HRL.out]; exact hown2) (by rw [HRL.out]; exact hgrow2) hat2
                rw [HPL.out, HPN.out] at HST
                go_roundw
                case rel => exact ⟨q + 1, by omega, by go_num, by rw [rep_snoc]; exact HST.1, by rw [rep_snoc, List.length_append, HPN.out, List.length_singleton]; omega, hnx3.trans HST.2⟩
                case measure => simp [intOf]; omega
            · have hqe : q = d := by omega
              subst hqe
              have hqI : ¬ (q : Int) < pm := by omega
              go_wp2
              go_roundw
              case rel => exact ⟨j + 1, by omega, by go_num, by rw [HTK.out]; exact HO3.out, by rw [HTK.out]; exact HL3.out, hnx3⟩
              case measure => simp [intOf]; omega
        · have HT : Hid (l.take j = l) := List.take_of_length_le (by rw [HN.out]; omega)
          rw [HT.out] at HO2 HL2
          go_wp2
          go_roundw
          case rel => exact ⟨3, rfl, .inr (.inr ⟨rfl, HO2.out, HL2.out⟩), hnx2⟩
          case measure => simp [intOf]
    · obtain ⟨oa2, oc2, hv6⟩ := OS_len hos
      subst hv6
      have HOS : Hid (OS wo w.heap.size (.slice oa2 (madeL l).length oc2) (madeL l)) := hos
      have HML : Hid ((madeL l).length ≤ 4096) := hml
      obtain ⟨ml, hml2⟩ : ∃ z, (madeL l).length = z := ⟨_, rfl⟩
      have HM2 : Hid ((madeL l).length = ml) := hml2
      rw [hml2]
      clear hos hml hml2
      go_wp2
      go_ret2
      exact ⟨.inr ⟨HML.out, oa2, oc2, ret_told HM2.out.symm, (OS_chgs HOS.out).1⟩, hnx⟩
end Go.Proofs.Ytkjiaeolodemlaf.ch

/- Two views gone through at once: what the document's DiffOf gathers. -/
namespace Go.Proofs.Ytkjiaeolodemlaf.ch
open Go.ChangeShapes Go.WideShapes Go.ChangeAt Go.RowKit Go.Maps Go.WideMaps
open vl
set_option linter.unusedVariables false
set_option linter.unusedSimpArgs false

theorem getK_snoc {l : KV} {p : List UInt8 × Int} (h : ∀ q ∈ l, q.1 ≠ p.1) (k : List UInt8) : getK (l ++ [p]) k = if k = p.1 then p.2 else getK l k := by
  induction l with
  | nil =>
    rw [List.nil_append, getK_cons]
    by_cases e : p.1 = k
    · rw [if_pos e, if_pos e.symm]
    · rw [if_neg e, if_neg (fun h => e h.symm)]
  | cons q r ih =>
    rw [List.cons_append, getK_cons, ih (fun x hx => h x (List.mem_cons_of_mem _ hx)), getK_cons]
    have hq := h q (List.mem_cons_self ..)
    by_cases e : q.1 = k
    · rw [if_pos e, if_pos e, if_neg (fun e2 => hq (e.trans e2))]
    · rw [if_neg e, if_neg e]
theorem rising_snoc {l : KV} {p : List UInt8 × Int} (h : rising l) (hp : ∀ q ∈ l, bytesBefore q.1 p.1 = true) : rising (l ++ [p]) := by
  unfold rising at *
  rw [List.pairwise_append]
  exact ⟨h, List.pairwise_singleton _ _, fun q hq x hx => by rw [List.mem_singleton.1 hx]; exact hp q hq⟩
theorem ne_before {a b : List UInt8} (h : bytesBefore a b = true) : a ≠ b := fun e => by rw [e, before_irrefl] at h; cases h
/-- a front of a view, by one row more -/
theorem front_get {v : List Cnt} (hw : wfView v) (h : viewOk v) (i : Nat) (hi : i < v.length) (k : List UInt8) : getK (kvOf (v.take (i + 1))) k = getK (kvOf (v.take i)) k + if k = encR (v.getD i default).r then (v.getD i default).n else 0 := by
  rw [takeV v i hi, kvOf_snoc, getK_snoc (fun q hq => ne_before (kv_all hw i hi (fun j hj => h.2 j (by omega)) q hq))]
  dsimp only
  split
  · rename_i e
    rw [e, getK_none (fun q hq => ne_before (kv_all hw i hi (fun j hj => h.2 j (by omega)) q hq))]; omega
  · omega
/-- what has been gathered of the first i rows of a and the first k of b -/
structure merged (a b : List Cnt) (i k : Nat) (M : List Cnt) : Prop where
  up : rising (kvOf M)
  ok : ∀ c ∈ M, rowOk c.r
  cnt : ∀ c ∈ M, -10000000000 ≤ c.n ∧ c.n ≤ 10000000000
  len : M.length ≤ i + k
  lowA : ∀ p ∈ kvOf M, i < a.length → bytesBefore p.1 (encR (a.getD i default).r) = true
  lowB : ∀ p ∈ kvOf M, k < b.length → bytesBefore p.1 (encR (b.getD k default).r) = true
  get : ∀ x, getK (kvOf M) x = getK (kvOf (b.take k)) x - getK (kvOf (a.take i)) x
theorem merged_start (a b : List Cnt) : merged a b 0 0 [] :=
  ⟨List.Pairwise.nil, fun c hc => (by cases hc), fun c hc => (by cases hc), Nat.le_refl _, fun p hp => (by cases hp), fun p hp => (by cases hp), fun x => rfl⟩
theorem next_before {v : List Cnt} (hw : wfView v) (h : viewOk v) (i : Nat) (hi : i + 1 < v.length) : bytesBefore (encR (v.getD i default).r) (encR (v.getD (i + 1) default).r) = true :=
  kv_before hw (i + 1) hi (fun j hj => h.2 j (by omega)) i (by omega)
theorem mem_snoc {M : List Cnt} {c : Cnt} {p : List UInt8 × Int} (h : p ∈ kvOf (M ++ [c])) : p ∈ kvOf M ∨ p = (encR c.r, c.n) := by
  rw [kvOf_snoc] at h
  rcases List.mem_append.1 h with h | h
  · exact .inl h
  · exact .inr (List.mem_singleton.1 h)
theorem cnt_view {v : List Cnt} (h : viewOk v) (i : Nat) (hi : i < v.length) : 1 ≤ (v.getD i default).n ∧ (v.getD i default).n ≤ 1073741824 := ⟨(h.2 i hi).2.1, (h.2 i hi).2.2.1⟩
theorem merged_a {a b M : List Cnt} {i k : Nat} (wa : wfView a) (oa : viewOk a) (hm : merged a b i k M) (hi : i < a.length) (hlt : k < b.length → bytesBefore (encR (a.getD i default).r) (encR (b.getD k default).r) = true) :
    merged a b (i + 1) k (M ++ [⟨(a.getD i default).r, -(a.getD i default).n⟩]) := by
  have hrow := ok_row wa hi (oa.2 i hi)
  have hc := cnt_view oa i hi
  have hlo : ∀ q ∈ kvOf M, bytesBefore q.1 (encR (a.getD i default).r) = true := fun q hq => hm.lowA q hq hi
  refine ⟨?_, ?_, ?_, ?_, ?_, ?_, ?_⟩
  · rw [kvOf_snoc]; exact rising_snoc hm.up hlo
  · intro c h
    rcases List.mem_append.1 h with h | h
    · exact hm.ok c h
    · rw [List.mem_singleton.1 h]; exact hrow
  · intro c h
    rcases List.mem_append.1 h with h | h
    · exact hm.cnt c h
    · rw [List.mem_singleton.1 h]; dsimp only; omega
  · rw [List.length_append, List.length_singleton]; have := hm.len; omega
  · intro p hp hi2
    rcases mem_snoc hp with h | h
    · exact before_trans (hlo p h) (next_before wa oa i hi2)
    · rw [h]; exact next_before wa oa i hi2
  · intro p hp hk
    rcases mem_snoc hp with h | h
    · exact hm.lowB p h hk
    · rw [h]; exact hlt hk
  · intro x
    rw [kvOf_snoc, getK_snoc (fun q hq => ne_before (hlo q hq)), front_get wa oa i hi, hm.get]
    dsimp only
    split
    · rename_i e
      have h0 : getK (kvOf M) x = 0 := by rw [e]; exact getK_none (fun q hq => ne_before (hlo q hq))
      rw [hm.get] at h0
      omega
    · omega
theorem merged_b {a b M : List Cnt} {i k : Nat} (wb : wfView b) (ob : viewOk b) (hm : merged a b i k M) (hk : k < b.length) (hlt : i < a.length → bytesBefore (encR (b.getD k default).r) (encR (a.getD i default).r) = true) :
    merged a b i (k + 1) (M ++ [⟨(b.getD k default).r, (b.getD k default).n⟩]) := by
  have hrow := ok_row wb hk (ob.2 k hk)
  have hc := cnt_view ob k hk
  have hlo : ∀ q ∈ kvOf M, bytesBefore q.1 (encR (b.getD k default).r) = true := fun q hq => hm.lowB q hq hk
  refine ⟨?_, ?_, ?_, ?_, ?_, ?_, ?_⟩
  · rw [kvOf_snoc]; exact rising_snoc hm.up hlo
  · intro c h
    rcases List.mem_append.1 h with h | h
    · exact hm.ok c h
    · rw [List.mem_singleton.1 h]; exact hrow
  · intro c h
    rcases List.mem_append.1 h with h | h
    · exact hm.cnt c h
    · rw [List.mem_singleton.1 h]; dsimp only; omega
  · rw [List.length_append, List.length_singleton]; have := hm.len; omega
  · intro p hp hi
    rcases mem_snoc hp with h | h
    · exact hm.lowA p h hi
    · rw [h]; exact hlt hi
  · intro p hp hk2
    rcases mem_snoc hp with h | h
    · exact before_trans (hlo p h) (next_before wb ob k hk2)
    · rw [h]; exact next_before wb ob k hk2
  · intro x
    rw [kvOf_snoc, getK_snoc (fun q hq => ne_before (hlo q hq)), front_get wb ob k hk, hm.get]
    dsimp only
    split
    · rename_i e
      have h0 : getK (kvOf M) x = 0 := by rw [e]; exact getK_none (fun q hq => ne_before (hlo q hq))
      rw [hm.get] at h0
      omega
    · omega
theorem merged_ab {a b M : List Cnt} {i k : Nat} (wa : wfView a) (oa : viewOk a) (wb : wfView b) (ob : viewOk b) (hm : merged a b i k M) (hi : i < a.length) (hk : k < b.length) (he : (a.getD i default).r = (b.getD k default).r) :
    merged a b (i + 1) (k + 1) (M ++ [⟨(a.getD i default).r, -(a.getD i default).n + (b.getD k default).n⟩]) := by
  have hrow := ok_row wa hi (oa.2 i hi)
  have hc := cnt_view oa i hi
  have hc2 := cnt_view ob k hk
  have hlo : ∀ q ∈ kvOf M, bytesBefore q.1 (encR (a.getD i default).r) = true := fun q hq => hm.lowA q hq hi
  refine ⟨?_, ?_, ?_, ?_, ?_, ?_, ?_⟩
  · rw [kvOf_snoc]; exact rising_snoc hm.up hlo
  · intro c h
    rcases List.mem_append.1 h with h | h
    · exact hm.ok c h
    · rw [List.mem_singleton.1 h]; exact hrow
  · intro c h
    rcases List.mem_append.1 h with h | h
    · exact hm.cnt c h
    · rw [List.mem_singleton.1 h]; dsimp only; omega
  · rw [List.length_append, List.length_singleton]; have := hm.len; omega
  · intro p hp hi2
    rcases mem_snoc hp with h | h
    · exact before_trans (hlo p h) (next_before wa oa i hi2)
    · rw [h]; exact next_before wa oa i hi2
  · intro p hp hk2
    have hn := next_before wb ob k hk2
    rcases mem_snoc hp with h | h
    · exact before_trans (hm.lowB p h hk) hn
    · rw [h]; dsimp only; rw [he]; exact hn
  · intro x
    rw [kvOf_snoc, getK_snoc (fun q hq => ne_before (hlo q hq)), front_get wa oa i hi, front_get wb ob k hk, hm.get]
    dsimp only
    rw [← he]
    split
    · rename_i e
      have h0 : getK (kvOf M) x = 0 := by rw [e]; exact getK_none (fun q hq => ne_before (hlo q hq))
      rw [hm.get] at h0
      omega
    · omega
theorem cmp_gt {a b : List Cel} (ha : rowOk a) (hb : rowOk b) (h : 0 < cmpRows a b) : bytesBefore (encR b) (encR a) = true := by
  have h1 := cmpB_rows a b ha.2 hb.2
  have h2 := less_cmp (encR a) (encR b)
  rw [h1] at h2
  refine before_total _ _ ?_ ?_
  · cases e : bytesBefore (encR a) (encR b) with
    | false => rfl
    | true =>
      rw [before_lt] at e
      rw [less_lt, e, if_pos rfl] at h2
      omega
  · intro e
    have h3 := encR_inj ha.2 hb.2 e
    have : Lib.compareBytes (encR a) (encR b) = 0 := cmpB_zero.2 e
    omega
theorem cmp_eq {a b : List Cel} (ha : rowOk a) (hb : rowOk b) (h : cmpRows a b = 0) : a = b := by
  have h1 := cmpB_rows a b ha.2 hb.2
  exact encR_inj ha.2 hb.2 (cmpB_zero.1 (by rw [h1, h]))

/-- noughts make no changes -/
def nz (l : List Cnt) : List Cnt := l.filter fun c => !(c.n == 0)
theorem made_nz (l : List Cnt) : madeL (nz l) = madeL l := by
  have h : ∀ f : Cnt → List Chg, (∀ c, c.n = 0 → f c = []) → (nz l).flatMap f = l.flatMap f := by
    intro f hf
    induction l with
    | nil => rfl
    | cons c r ih =>
      unfold nz at ih ⊢
      by_cases e : c.n = 0
      · rw [List.filter_cons_of_neg (by simpa using e), ih, List.flatMap_cons, hf c e, List.nil_append]
      · rw [List.filter_cons_of_pos (by simpa using e), List.flatMap_cons, List.flatMap_cons, ih]
  unfold madeL dels inss
  rw [h _ (fun c e => by rw [e]; rfl), h _ (fun c e => by rw [e]; rfl)]
theorem kvOf_nz (l : List Cnt) : kvOf (nz l) = (kvOf l).filter fun p => !(p.2 == 0) := by
  unfold kvOf nz
  rw [List.filter_map]
  rfl
theorem nz_get {kv : KV} (hr : rising kv) (k : List UInt8) : getK (kv.filter fun p => !(p.2 == 0)) k = getK kv k := by
  induction kv with
  | nil => rfl
  | cons p r ih =>
    have h1 := List.pairwise_cons.1 hr
    by_cases e : p.2 = 0
    · rw [List.filter_cons_of_neg (by simpa using e), ih h1.2, getK_cons]
      by_cases e2 : p.1 = k
      · rw [if_pos e2, e, ← e2]; exact getK_tail hr
      · rw [if_neg e2]
    · rw [List.filter_cons_of_pos (by simpa using e), getK_cons, ih h1.2, getK_cons]
/-- counts that tell the same make the same changes -/
theorem made_same {l m : List Cnt} (hl : rising (kvOf l)) (hm : rising (kvOf m)) (ol : ∀ c ∈ l, rowOk c.r) (om : ∀ c ∈ m, rowOk c.r) (h : ∀ k, getK (kvOf l) k = getK (kvOf m) k) : madeL l = madeL m := by
  have hn : ∀ x : List Cnt, ∀ p ∈ kvOf (nz x), p.2 ≠ 0 := fun x p hp => by
    rw [kvOf_nz] at hp
    have := (List.mem_filter.1 hp).2
    simpa using this
  have hk : kvOf (nz l) = kvOf (nz m) := kv_ext (by rw [kvOf_nz]; exact List.Pairwise.filter _ hl) (by rw [kvOf_nz]; exact List.Pairwise.filter _ hm) (hn l) (hn m) (fun k => by rw [kvOf_nz, kvOf_nz, nz_get hl, nz_get hm, h])
  have e : nz l = nz m := kvOf_inj (fun c hc => ol c (List.mem_filter.1 hc).1) (fun c hc => om c (List.mem_filter.1 hc).1) hk
  rw [← made_nz l, ← made_nz m, e]
end Go.Proofs.Ytkjiaeolodemlaf.ch

/- The rows and the numbers that the document's DiffOf gathers, in memory. -/
namespace Go.Proofs.Ytkjiaeolodemlaf.ch
open Go.ChangeShapes Go.WideShapes Go.ChangeAt Go.RowKit Go.Maps Go.WideMaps
open vl
set_option linter.unusedVariables false
set_option linter.unusedSimpArgs false

theorem infoR : (Try.prog.info? 49).map (fun i => (i.zero, i.size, i.bytes)) = some (some (.slice none 0 0), 1, 24) := by kernel_rfl
theorem infoI : (Try.prog.info? 3).map (fun i => (i.zero, i.size, i.bytes)) = some (some (.int .i64 0), 1, 8) := by kernel_rfl
theorem wpList_appR {ops : Array Oper} {rest : List Oper} {o : Oper} {a : Act} {Q : Exit → Act → World → Prop} (hgd : o.guard = none) (s y : Operand)
    (hop : o.op = .call { callee := .builtin .append, args := #[s, y], argTypes := #[46, 46] })
    (base : Nat) (v : Value) (m : Nat) (vs : List Value) (x : Value) (w1 : World) (ho : w1.ownsRow base 49 1 v m vs) (hx1 : x.oneCell' = true) (hl : m ≤ 1000000) (hb : base ≤ w1.heap.size)
    (hs : a.eval s = v) (hx : a.eval y = .slice (some ⟨w1.heap.size, 0, none⟩) 1 1)
    (h : ∀ g cap2 w2, w2.ownsRow base 49 1 (.slice (some ⟨g, 0, none⟩) (m + 1) cap2) (m + 1) (vs ++ [x]) → (w1.alloc (.cells #[x] 49)).grownBy w2 v.ownBlock → (v.ownBlock = some g ∨ g = w1.heap.size + 1) → g < w2.heap.size → wpList Try.prog ops Q rest (a.put o.dst (.slice (some ⟨g, 0, none⟩) (m + 1) cap2)) w2) :
    wpList Try.prog ops Q (o :: rest) a (w1.alloc (.cells #[x] 49)) := by
  obtain ⟨i0, hi, hz0, hz1, hz2⟩ := info_parts infoR
  exact wpList_append_lies _ hgd s y 46 hop base 49 i0 (.slice none 0 0) 1 24 Try.underlying46 hi hz0 hz1 hz2 rfl (by decide) v m vs hs
    (ho.alloc _) ⟨w1.heap.size, 0, none⟩ 1 1 [x] hx rfl (cell_one_new _ _ _) (by intro u hu; rw [List.mem_singleton.1 hu]; exact hx1) (by decide) (by unfold maxLen; omega) (by omega) (by simp; omega) (w1.heap.size + 1) (by simp) h
theorem wpList_appN {ops : Array Oper} {rest : List Oper} {o : Oper} {a : Act} {Q : Exit → Act → World → Prop} (hgd : o.guard = none) (s y : Operand)
    (hop : o.op = .call { callee := .builtin .append, args := #[s, y], argTypes := #[47, 47] })
    (base : Nat) (v : Value) (m : Nat) (vs : List Value) (d : Int) (w1 : World) (ho : w1.ownsRow base 3 1 v m vs) (hl : m ≤ 1000000) (hb : base ≤ w1.heap.size)
    (hs : a.eval s = v) (hx : a.eval y = .slice (some ⟨w1.heap.size, 0, none⟩) 1 1)
    (h : ∀ g cap2 w2, w2.ownsRow base 3 1 (.slice (some ⟨g, 0, none⟩) (m + 1) cap2) (m + 1) (vs ++ [.int .i64 d]) → (w1.alloc (.cells #[.int .i64 d] 3)).grownBy w2 v.ownBlock → (v.ownBlock = some g ∨ g = w1.heap.size + 1) → g < w2.heap.size → wpList Try.prog ops Q rest (a.put o.dst (.slice (some ⟨g, 0, none⟩) (m + 1) cap2)) w2) :
    wpList Try.prog ops Q (o :: rest) a (w1.alloc (.cells #[.int .i64 d] 3)) := by
  obtain ⟨i0, hi, hz0, hz1, hz2⟩ := info_parts infoI
  exact wpList_append_lies _ hgd s y 47 hop base 3 i0 (.int .i64 0) 1 8 Try.underlying47 hi hz0 hz1 hz2 rfl (by decide) v m vs hs
    (ho.alloc _) ⟨w1.heap.size, 0, none⟩ 1 1 [.int .i64 d] hx rfl (cell_one_new _ _ _) (by intro u hu; rw [List.mem_singleton.1 hu]; rfl) (by decide) (by unfold maxLen; omega) (by omega) (by simp; omega) (w1.heap.size + 1) (by simp) h

def numV (M : List Cnt) : List Value := M.map fun c => .int .i64 c.n
def rowV (w0 : World) (vs : List Value) (M : List Cnt) : Prop := ∀ i, i < M.length → ∃ ra rc, vs[i]? = some (.slice ra (M.getD i default).r.length rc) ∧ vl.rowAt w0 ra (M.getD i default).r
structure DS (w0 wr : World) (vR vN : Value) (M : List Cnt) : Prop where
  low : w0.heap.size ≤ wr.heap.size
  nums : wr.ownsRow w0.heap.size 3 1 vN M.length (numV M)
  rows : ∃ vs, wr.ownsRow w0.heap.size 49 1 vR M.length vs ∧ rowV w0 vs M
  apart : ∀ g, vR.ownBlock = some g → vN.ownBlock ≠ some g
theorem DS_start {w0 wr : World} (h : w0.heap.size ≤ wr.heap.size) : DS w0 wr (.slice none 0 0) (.slice none 0 0) [] :=
  ⟨h, World.ownsRow_nil _ _ _ _, ⟨[], World.ownsRow_nil _ _ _ _, fun i hi => absurd hi (Nat.not_lt_zero i)⟩, fun g e => by cases e⟩
theorem DS_below {w0 wr w' : World} {vR vN : Value} {M : List Cnt} (h : DS w0 wr vR vN M) (hb : Below wr.heap.size wr w') : DS w0 w' vR vN M := by
  obtain ⟨vs, h1, h2⟩ := h.rows
  exact ⟨Nat.le_trans h.low hb.size, own_below h.nums hb, ⟨vs, own_below h1 hb, h2⟩, h.apart⟩
theorem DS_mid {w0 wr w2 : World} {vR vN : Value} {M : List Cnt} {o : Obj} (h : DS w0 wr vR vN M) (hg : (wr.alloc o).grownBy w2 vR.ownBlock) : w2.ownsRow w0.heap.size 3 1 vN M.length (numV M) := by
  refine own_same h.nums (fun b hb => ?_)
  have hlt := (own_lt h.nums hb).2
  rw [hg.block b (by simp; omega) (fun e => h.apart b e.symm hb)]
  exact Below.heap_alloc _ _ b hlt
theorem DS_step {w0 wr w2 w3 : World} {vR vN : Value} {M : List Cnt} {vs : List Value} {ra : Option Addr} {rc g cap g' cap' : Nat} {r : List Cel} {d : Int} (h : DS w0 wr vR vN M) (hvs : wr.ownsRow w0.heap.size 49 1 vR M.length vs) (hrv : rowV w0 vs M) (hr : vl.rowAt w0 ra r)
    (hown2 : w2.ownsRow w0.heap.size 49 1 (.slice (some ⟨g, 0, none⟩) (M.length + 1) cap) (M.length + 1) (vs ++ [.slice ra r.length rc])) (hg2 : (wr.alloc (.cells #[.slice ra r.length rc] 49)).grownBy w2 vR.ownBlock) (hat2 : vR.ownBlock = some g ∨ g = wr.heap.size + 1)
    (hown3 : w3.ownsRow w0.heap.size 3 1 (.slice (some ⟨g', 0, none⟩) (M.length + 1) cap') (M.length + 1) (numV M ++ [.int .i64 d])) (hg3 : (w2.alloc (.cells #[.int .i64 d] 3)).grownBy w3 vN.ownBlock) (hat3 : vN.ownBlock = some g' ∨ g' = w2.heap.size + 1) :
    DS w0 w3 (.slice (some ⟨g, 0, none⟩) (M.length + 1) cap) (.slice (some ⟨g', 0, none⟩) (M.length + 1) cap') (M ++ [⟨r, d⟩]) ∧ Below w0.heap.size wr w3 := by
  have hlow := h.low
  have hs2 : wr.heap.size + 1 ≤ w2.heap.size := by have := hg2.size; simpa using this
  have hs3 : w2.heap.size + 1 ≤ w3.heap.size := by have := hg3.size; simpa using this
  have hRlt : ∀ b, vR.ownBlock = some b → w0.heap.size ≤ b ∧ b < wr.heap.size := fun b hb => own_lt hvs hb
  have hNlt : ∀ b, vN.ownBlock = some b → w0.heap.size ≤ b ∧ b < wr.heap.size := fun b hb => own_lt h.nums hb
  have hglt := (own_lt hown2 (g := g) rfl).2
  have hgN : vN.ownBlock ≠ some g := by
    rcases hat2 with h1 | h1
    · exact h.apart g h1
    · intro e; have := (hNlt g e).2; omega
  have hbw : Below w0.heap.size wr w3 := by
    have b1 : Below w0.heap.size wr w2 := ((Below.refl w0.heap.size wr).alloc hlow _).grown hg2 (by simp; omega) (fun b hb => (hRlt b hb).1)
    exact (b1.alloc (by omega) _).grown hg3 (by simp; omega) (fun b hb => (hNlt b hb).1)
  have hML : (M ++ [(⟨r, d⟩ : Cnt)]).length = M.length + 1 := by rw [List.length_append, List.length_singleton]
  refine ⟨⟨Nat.le_trans hlow hbw.size, ?_, ⟨vs ++ [.slice ra r.length rc], ?_, ?_⟩, ?_⟩, hbw⟩
  · rw [hML]
    have e : numV (M ++ [⟨r, d⟩]) = numV M ++ [.int .i64 d] := by unfold numV; rw [List.map_append]; rfl
    rw [e]; exact hown3
  · rw [hML]
    refine own_same hown2 (fun b hb => ?_)
    have hbg : b = g := by cases hb; rfl
    subst hbg
    rw [hg3.block b (by simp; omega) (fun e => hgN e.symm)]
    exact Below.heap_alloc _ _ b hglt
  · have hvl : vs.length = M.length := by have := hvs.1; omega
    intro i hi
    rw [hML] at hi
    by_cases hlt : i < M.length
    · obtain ⟨ra', rc', e1, e2⟩ := hrv i hlt
      rw [getD_snoc_lt M _ _ i hlt]
      exact ⟨ra', rc', by rw [List.getElem?_append_left (by omega)]; exact e1, e2⟩
    · have hie : i = M.length := by omega
      rw [getD_snoc_at M _ _ i hie]
      exact ⟨ra, rc, by rw [List.getElem?_append_right (by omega), hie, hvl, Nat.sub_self]; rfl, hr⟩
  · intro b hb e
    have hbg : b = g := by cases hb; rfl
    have hbg' : b = g' := by cases e; rfl
    subst hbg
    rcases hat3 with h1 | h1
    · rw [← hbg'] at h1; exact hgN h1
    · omega
theorem DS_form {w0 wr : World} {vR vN : Value} {M : List Cnt} (h : DS w0 wr vR vN M) (hb : Below w0.heap.size w0 wr) : ∃ aR cR aN cN, vR = .slice aR M.length cR ∧ vN = .slice aN M.length cN ∧ rowsAt wr aR M ∧ numsAt wr aN M := by
  obtain ⟨vs, h1, h2⟩ := h.rows
  obtain ⟨aR, cR, e1, q1⟩ := row_form h1
  obtain ⟨aN, cN, e2, q2⟩ := row_form h.nums
  subst e1 e2
  refine ⟨aR, cR, aN, cN, rfl, rfl, ?_, ?_⟩
  · intro i hi
    obtain ⟨g, rfl⟩ := q1 (by omega)
    obtain ⟨ra, rc, e, hr⟩ := h2 i hi
    have hc := World.ownsRow.cells h1 (g := g) rfl i _ e
    rw [addr_add] at hc
    exact ⟨g, 0, ra, rc, rfl, hc, rowAt_below hr hb⟩
  · intro i hi
    obtain ⟨g, rfl⟩ := q2 (by omega)
    have hc := World.ownsRow.cells h.nums (g := g) rfl i (.int .i64 (M.getD i default).n) (by
      unfold numV
      rw [List.getElem?_map, List.getElem?_eq_getElem hi, List.getD_eq_getElem?_getD, List.getElem?_eq_getElem hi]; rfl)
    rw [addr_add] at hc
    exact ⟨g, 0, rfl, hc⟩
end Go.Proofs.Ytkjiaeolodemlaf.ch
