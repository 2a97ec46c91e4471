/- The document's CheckBuffer. -/
import Derived.Test.YtnfknkihiapgiaaFrC
import Derived.Test.YtnfknkihiapgiaaBufFine
namespace Go.Proofs.Ytnfknkihiapgiaa.bf
open Go.ChangeShapes Go.WideShapes Go.ChangeAt Go.RowKit
open vl
set_option linter.unusedVariables false
set_option linter.unusedSimpArgs false
attribute [local go_sem] Oper.semAt_some
/-- how many there are in memory and in the first k runs -/
def sumB (b : Buf) (k : Nat) : Nat := b.mem.length + ((b.runs.take k).flatten).length
/-- is one of the first k runs hollow? -/
def holB (b : Buf) (k : Nat) : Bool := (b.runs.take k).any fun r => decide (r.length = 0)
theorem sumB_zero (b : Buf) : sumB b 0 = b.mem.length := by simp [sumB]
theorem sumB_next {b : Buf} {k : Nat} (h : k < b.runs.length) : sumB b (k + 1) = sumB b k + (b.runs.getD k default).length := by
  unfold sumB
  rw [take_snoc (d := default) h, List.flatten_append, List.length_append]
  simp; omega
theorem sumB_all (b : Buf) : sumB b b.runs.length = (entsB b).length := by
  unfold sumB; rw [List.take_length, ents_eq, List.length_append]
theorem sumB_le {b : Buf} (k : Nat) : sumB b k ≤ (entsB b).length := by
  unfold sumB
  rw [ents_eq, List.length_append]
  have : b.runs.flatten = (b.runs.take k).flatten ++ (b.runs.drop k).flatten := by rw [← List.flatten_append, List.take_append_drop]
  rw [this, List.length_append]; omega
theorem holB_next {b : Buf} {k : Nat} (h : k < b.runs.length) : holB b (k + 1) = (holB b k || decide ((b.runs.getD k default).length = 0)) := by
  unfold holB
  rw [take_snoc (d := default) h, List.any_append]
  simp
theorem holB_yes {b : Buf} {k : Nat} (h : holB b k = true) : ¬ okB b := fun ok => by
  unfold holB at h
  obtain ⟨r, hr, e⟩ := List.any_eq_true.1 h
  have := ok.full r (List.mem_of_mem_take hr)
  have e2 : r.length = 0 := by simpa using e
  omega
theorem holB_no {b : Buf} (h : holB b b.runs.length = false) : ∀ r ∈ b.runs, 0 < r.length := fun r hr => by
  unfold holB at h
  rw [List.take_length] at h
  have := List.any_eq_false.1 h r hr
  simp at this
  rcases Nat.eq_zero_or_pos r.length with e | e
  · exact absurd (List.length_eq_zero_iff.1 e) this
  · exact e
theorem errB_three {b : Buf} (h : betw b.lim 1 64 = false) : 3 = errB b := by unfold errB; rw [if_pos h]
theorem errB_two {b : Buf} (h : betw b.lim 1 64 = true) (h2 : (entsB b).length > 4096 ∨ (b.mem.length : Int) > b.lim) : 2 = errB b := by
  have hc : countB b = false := by
    unfold countB
    rcases h2 with h2 | h2
    · rw [decide_eq_false (by omega : ¬ (entsB b).length ≤ 4096), Bool.and_false]
    · rw [decide_eq_false (by omega : ¬ (b.mem.length : Int) ≤ b.lim), Bool.false_and]
  unfold errB
  rw [h, hc]; rfl
theorem errB_one {b : Buf} (h : betw b.lim 1 64 = true) (h2 : (entsB b).length ≤ 4096) (h3 : (b.mem.length : Int) ≤ b.lim) (hn : ¬ okB b) : 1 = errB b := by
  have hc : countB b = true := by
    unfold countB
    rw [decide_eq_true h2, decide_eq_true h3]; rfl
  have hf : formB b = false := by
    cases e : formB b with
    | false => rfl
    | true => exact absurd (okB_of (by unfold errB; rw [h, hc, e]; rfl)) hn
  unfold errB
  rw [h, hc, hf]; rfl
theorem okB_all {b : Buf} {l : List Ent} {f : Bool} (h1 : betw b.lim 1 64 = true) (h2 : (entsB b).length ≤ 4096) (h3 : (b.mem.length : Int) ≤ b.lim) (h4 : holB b b.runs.length = false) (h5 : upB b.mem = true) (h6 : ∀ j, j < b.runs.length → upB (b.runs.getD j default) = true) (h7 : ES (entsB b) l f) (h8 : f = true ∧ ∀ j, j < l.length → fineB (l.getD j default) = true) : okB b := by
  have hp := h7.perm h8.1
  refine okB_mk ((betw_iff _ _ _).1 h1) h3 h2 (fun y hy => ?_) (fun p hp => ?_) (holB_no h4) (h7.fine.1 h8.1)
  · obtain ⟨j, hj, rfl⟩ := List.getElem_of_mem (hp.mem_iff.2 hy)
    have := h8.2 j hj
    rw [getD_at hj] at this
    exact fineB_iff.1 this
  · rcases List.mem_cons.1 hp with rfl | hp
    · exact upB_iff.1 h5
    · obtain ⟨j, hj, rfl⟩ := List.getElem_of_mem hp
      have := h6 j hj
      rw [getD_at hj] at this
      exact upB_iff.1 this
theorem okB_up {b : Buf} {l : List Ent} (ok : okB b) (h : l ∈ partsB b) (k : upB l = false) : False := by
  rw [upB_iff.2 (ok.rises h)] at k; cases k
theorem okB_ent {b : Buf} {l : List Ent} {f : Bool} {j : Nat} (ok : okB b) (h7 : ES (entsB b) l f) (hj : j < l.length) (k : fineB (l.getD j default) = false) : False := by
  have hf := h7.fine.2 ok.once
  have := ok.entry ((h7.perm hf).mem_iff.1 (mem_getD (d := default) hj))
  rw [fineB_yes this] at k; cases k
theorem ret_int {x y : Int} (h : x = y) : Ending.returned (.int .i64 x) = .returned (.int .i64 y) := by rw [h]
set_option maxRecDepth 100000 in
set_option maxHeartbeats 16000000 in
theorem rcheck_any (b : Buf) (x : BX) (w : World) (h : bufAt w b x) (hw : ∀ y ∈ entsB b, wfE y ∧ y.key.size ≤ 140737488355328 ∧ y.row.length ≤ 2000000) (hs : (entsB b).length ≤ 4611686018427387904) :
    Calls Try.prog 9 #[bufV b x] w fun e w' => e = .returned (.int .i64 (errB b)) ∧ Below w.heap.size w w' := by
  have KE : Hid (∀ w1, (entsB b).length ≤ 4096 → Below w.heap.size w w1 → Calls Try.prog 41 #[bufV b x] w1 fun r w' => (∃ (hh : Hdr) (es : List EM) (l : List Ent) (f : Bool), r = .returned (.tuple #[hdV hh, .bool f]) ∧ OE w' (w1.heap.size + 1) (hdV hh) es l ∧ ES (entsB b) l f) ∧ Below w1.heap.size w1 w') :=
    fun w1 hl hb => entries_any b x w1 (bufAt_below h hb) (by omega) (fun y hy => (hw y hy).2.2)
  have hm1 : x.m ∈ x.m :: x.rs := List.mem_cons_self ..
  have KM : Hid (∀ w1, b.mem.length ≤ 4096 → Below w.heap.size w w1 → Calls Try.prog 40 #[hdV x.m.1] w1 fun r w' => r = .returned (.bool (upB b.mem)) ∧ Below w1.heap.size w1 w') := fun w1 hl hb => by
    have k := rises_any x.m.1.1 x.m.1.2.2 x.m.2 b.mem w1 (emsAt_below (h.ems _ hm1) hb) (h.mem.below hb) (by omega)
    unfold hdV
    rw [(h.len _ hm1).1, h.mem.1]
    exact k
  have KR : Hid (∀ i w1, i < b.runs.length → (b.runs.getD i default).length ≤ 4096 → Below w.heap.size w w1 → Calls Try.prog 40 #[hdV (x.rs.getD i default).1] w1 fun r w' => r = .returned (.bool (upB (b.runs.getD i default))) ∧ Below w1.heap.size w1 w') := fun i w1 hi hl hb => by
    have g1 : x.rs.getD i default ∈ x.m :: x.rs := List.mem_cons_of_mem _ (mem_getD (by rw [h.rlen]; exact hi))
    have e1 := h.runs i hi
    have k := rises_any (x.rs.getD i default).1.1 (x.rs.getD i default).1.2.2 (x.rs.getD i default).2 (b.runs.getD i default) w1 (emsAt_below (h.ems _ g1) hb) (e1.below hb) (by omega)
    unfold hdV
    rw [(h.len _ g1).1, e1.1]
    exact k
  have KF : Hid (∀ e y w1, ER w1 e y → y ∈ entsB b → Calls Try.prog 42 #[e.val] w1 fun r w' => r = .returned (.bool (fineB y)) ∧ Below w1.heap.size w1 w') := fun e y w1 he hy => rfine_any e y w1 he (hw y hy).1 (hw y hy).2.1
  have KW : Hid (∀ w1, Calls Try.prog 39 #[.int .i64 b.lim, .int .i64 1, .int .i64 64] w1 fun e w' => e = .returned (.bool (betw b.lim 1 64)) ∧ w' = w1) := fun w1 => within_any _ _ _ w1
  obtain ⟨R, hR⟩ : ∃ z, errB b = z := ⟨_, rfl⟩
  have H3 : Hid (betw b.lim 1 64 = false → 3 = R) := fun h => by rw [← hR]; exact errB_three h
  have H2 : Hid (betw b.lim 1 64 = true → (entsB b).length > 4096 ∨ (b.mem.length : Int) > b.lim → 2 = R) := fun h k => by rw [← hR]; exact errB_two h k
  have H1 : Hid (betw b.lim 1 64 = true → (entsB b).length ≤ 4096 → (b.mem.length : Int) ≤ b.lim → ¬ okB b → 1 = R) := fun h k1 k2 k3 => by rw [← hR]; exact errB_one h k1 k2 k3
  have H0 : Hid (∀ l f, betw b.lim 1 64 = true → (entsB b).length ≤ 4096 → (b.mem.length : Int) ≤ b.lim → holB b b.runs.length = false → upB b.mem = true → (∀ j, j < b.runs.length → upB (b.runs.getD j default) = true) → ES (entsB b) l f → (f = true ∧ ∀ j, j < l.length → fineB (l.getD j default) = true) → 0 = R) := fun l f h1 h2 h3 h4 h5 h6 h7 h8 => by rw [← hR]; exact (errB_zero (okB_all h1 h2 h3 h4 h5 h6 h7 h8)).symm
  rw [hR]
  have HD : Hid (hdsAt w x.ra (x.rs.map (·.1))) := h.hds
  have hfew := h.few
  have HRN : Hid (∀ k, k < b.runs.length → b.runs.getD k default ∈ partsB b) := fun k hk => List.mem_cons_of_mem _ (mem_getD hk)
  have HLE : Hid (∀ k, k < b.runs.length → (b.runs.getD k default).length ≤ (entsB b).length) := fun k hk => part_le (List.mem_cons_of_mem _ (mem_getD hk))
  have HML : Hid (b.mem.length ≤ (entsB b).length) := part_le (List.mem_cons_self ..)
  have HS0 : Hid (sumB b 0 = b.mem.length) := sumB_zero b
  have HS1 : Hid (∀ k, k < b.runs.length → sumB b (k + 1) = sumB b k + (b.runs.getD k default).length) := fun k hk => sumB_next hk
  have HS2 : Hid (∀ k, sumB b k ≤ (entsB b).length) := fun k => sumB_le k
  have HS3 : Hid (sumB b b.runs.length = (entsB b).length) := sumB_all b
  have HH1 : Hid (∀ k, k < b.runs.length → holB b (k + 1) = (holB b k || decide ((b.runs.getD k default).length = 0))) := fun k hk => holB_next hk
  have HH2 : Hid (∀ k, holB b k = true → ¬ okB b) := fun k hk => holB_yes hk
  have HRL : Hid (∀ i, i < b.runs.length → (x.rs.getD i default).1.2.1 = (b.runs.getD i default).length) := fun i hi => by
    have g1 : x.rs.getD i default ∈ x.m :: x.rs := List.mem_cons_of_mem _ (mem_getD (by rw [h.rlen]; exact hi))
    rw [(h.len _ g1).1, (h.runs i hi).1]
  have HMM : Hid (x.m.1.2.1 = b.mem.length) := by show _ = _; rw [(h.len _ hm1).1, h.mem.1]
  have hrl := h.rlen
  have HBV : Hid (holB b 0 = false) := by show _ = _; simp [holB]
  clear hR h hw hm1
  obtain ⟨ra, rc, ⟨⟨m1, m2, m3⟩, ml⟩, rs⟩ := x
  obtain ⟨lim, hlim⟩ : ∃ z, b.lim = z := ⟨_, rfl⟩
  obtain ⟨RN, hRN⟩ : ∃ z : Nat → List Ent, (fun k => b.runs.getD k default) = z := ⟨_, rfl⟩
  have hRN' : ∀ k, b.runs.getD k default = RN k := fun k => congrFun hRN k
  obtain ⟨n, hn⟩ : ∃ z, b.runs.length = z := ⟨_, rfl⟩
  obtain ⟨T, hT⟩ : ∃ z, (entsB b).length = z := ⟨_, rfl⟩
  have HEL : Hid (∀ k, k ≤ (entsB b).length → k ≤ T) := fun k hk => by rw [← hT]; exact hk
  have hms : b.mem.length = m2 := HMM.out.symm
  unfold bufV hdV at KE ⊢
  unfold hdV at KM
  simp only [hRN', hn, hlim, hT, hms] at KE KM KR KW H3 H2 H1 H0 HRN HLE HML HS0 HS1 HS2 HS3 HH1 HRL hs hrl hfew ⊢
  have HN : Hid (rs.length = n ∧ True) := ⟨hrl, trivial⟩
  rw [hrl] at KE hfew ⊢
  clear hlim hRN hRN' hn hms hrl HMM
  have hb0 : Below w.heap.size w (w.alloc (.cells #[.int .i64 lim, .slice m1 m2 m3, .slice ra n rc] 25)) := (Below.refl _ _).alloc (Nat.le_refl _) _
  have k0 : (w.alloc (.cells #[.int .i64 lim, .slice m1 m2 m3, .slice ra n rc] 25)).cell? ⟨w.heap.size, 0, none⟩ = some (.int .i64 lim) := by go_simp
  have k1 : (w.alloc (.cells #[.int .i64 lim, .slice m1 m2 m3, .slice ra n rc] 25)).cell? ⟨w.heap.size, 1, none⟩ = some (.slice m1 m2 m3) := by go_simp
  have k2 : (w.alloc (.cells #[.int .i64 lim, .slice m1 m2 m3, .slice ra n rc] 25)).cell? ⟨w.heap.size, 2, none⟩ = some (.slice ra n rc) := by go_simp
  have hmT : m2 ≤ T := HML.out
  obtain ⟨BT, hBT⟩ : ∃ z, betw lim 1 64 = z := ⟨_, rfl⟩
  rw [hBT] at KW H3 H2 H1 H0
  clear hBT
  cases BT with
  | false =>
    have HE : Hid (3 = R) := H3.out rfl
    go_enter Try.func9, Try.ntmps9
    go_wp2_with (go_at_call 39; refine (KW.out _).mono ?_; rintro e w' ⟨rfl, hww⟩; subst hww)
    go_ret
    exact ⟨ret_int HE.out, hb0⟩
  | true =>
    have hbt : true = true := rfl
    go_enter Try.func9, Try.ntmps9
    go_wp2_with (go_at_call 39; refine (KW.out _).mono ?_; rintro e w' ⟨rfl, hww⟩; subst hww)
    generalize w.alloc (.cells #[.int .i64 lim, .slice m1 m2 m3, .slice ra n rc] 25) = W0 at *
    go_loopw [3, 4, 5] (fun sn ho ii wr => ∃ k : Nat, k ≤ n ∧ ii = .int .i64 k ∧ sn = .int .i64 (sumB b k) ∧ ho = .bool (holB b k) ∧ wr = W0) (fun _ _ ii _ => n - (intOf ii).toNat)
    case atStart => exact ⟨0, Nat.zero_le _, rfl, by rw [HS0.out], by rw [HBV.out], rfl⟩
    case round =>
      obtain ⟨k, hk, rfl, rfl, rfl, rfl⟩ := hrel
      have lw : w.heap.size < wr.heap.size := World.block_lt_of_cell? _ _ k0
      obtain ⟨p, hp⟩ : ∃ z, sumB b k = z := ⟨_, rfl⟩
      have HP : Hid (sumB b k = p) := hp
      have hpT : p ≤ T := by rw [← hp]; exact HS2.out k
      obtain ⟨ho, hho⟩ : ∃ z, holB b k = z := ⟨_, rfl⟩
      have HO : Hid (holB b k = ho) := hho
      rw [hp, hho]
      clear hp hho
      by_cases hkn : k < n
      · obtain ⟨b4, o4, e4, x4⟩ := HD.out k (by rw [List.length_map, HN.out.1]; exact hkn)
        subst e4
        have z0 := cell_later hb0 x4
        have ee1 : (rs.map (·.1)).getD k (none, 0, 0) = (rs.getD k default).1 := by rw [List.getD_eq_getElem?_getD, List.getElem?_map, List.getElem?_eq_getElem (by rw [HN.out.1]; exact hkn), List.getD_eq_getElem?_getD, List.getElem?_eq_getElem (by rw [HN.out.1]; exact hkn)]; rfl
        rw [ee1] at z0
        have hln := HRL.out k hkn
        have hs1 := HS1.out k hkn
        have hh1 := HH1.out k hkn
        have hs2 := HS2.out (k + 1)
        rw [HP.out] at hs1
        rw [HO.out] at hh1
        obtain ⟨⟨⟨s1, s2, s3⟩, sl⟩, hz⟩ : ∃ z, rs.getD k default = z := ⟨_, rfl⟩
        rw [hz] at z0 hln
        unfold hdV at z0
        dsimp only at z0 hln
        rw [← hln] at hs1 hh1
        obtain ⟨zb, hzb⟩ : ∃ z, decide (s2 = 0) = z := ⟨_, rfl⟩
        rw [hzb] at hh1
        have hzq : ((s2 : Int) == 0) = zb := by rw [← hzb]; by_cases e : s2 = 0 <;> simp [e]
        have HS4 : Hid (sumB b (k + 1) = p + s2) := hs1
        have HH4 : Hid (holB b (k + 1) = (ho || zb)) := hh1
        rw [hs1] at hs2
        have hwp : IntKind.i64.wrap ((p : Int) + (s2 : Int)) = (p : Int) + (s2 : Int) := by rw [wrap_is]; omega
        have i1 : (0 : Int) ≤ (k : Int) := by omega
        have i2 : (k : Int) < (n : Int) := by omega
        clear hz hln ee1 x4 hs1 hh1 hzb
        by_cases hbig : (p : Int) + (s2 : Int) > 4096
        · have HE : Hid (2 = R) := H2.out hbt (.inl (by omega))
          cases ho
          all_goals
            go_wp2
            go_ret
            exact ⟨ret_int HE.out, hb0⟩
        · have hbig' : ¬ 4096 < (p : Int) + (s2 : Int) := by omega
          cases ho with
          | false =>
            go_wp2
            go_roundw
            case rel => exact ⟨k + 1, by omega, by go_num, by rw [HS4.out]; go_num, by rw [HH4.out]; rfl, by trivial⟩
            case measure => simp [intOf] <;> omega
          | true =>
            go_wp2
            go_roundw
            case rel => exact ⟨k + 1, by omega, by go_num, by rw [HS4.out]; go_num, by rw [HH4.out]; rfl, by trivial⟩
            case measure => simp [intOf] <;> omega
      · have hke : n = k := by omega
        subst hke
        have hpe : p = T := by rw [← HP.out]; exact HS3.out
        subst hpe
        by_cases hbig : (p : Int) > 4096
        · have HE : Hid (2 = R) := H2.out hbt (.inl (by omega))
          go_wp2
          go_ret
          exact ⟨ret_int HE.out, hb0⟩
        · have ht : p ≤ 4096 := by omega
          by_cases hml : (m2 : Int) > lim
          · have HE : Hid (2 = R) := H2.out hbt (.inr hml)
            go_wp2
            go_ret
            exact ⟨ret_int HE.out, hb0⟩
          · have hm : (m2 : Int) ≤ lim := by omega
            cases ho with
            | true =>
              have HE : Hid (1 = R) := H1.out hbt ht hm (HH2.out _ HO.out)
              go_wp2
              go_ret
              exact ⟨ret_int HE.out, hb0⟩
            | false =>
              have HHOL : Hid (holB b n = false) := HO.out
              have KX := KM.out wr (by omega) hb0
              obtain ⟨UM, hUM⟩ : ∃ z, upB b.mem = z := ⟨_, rfl⟩
              have HUM : Hid (upB b.mem = UM) := hUM
              rw [hUM] at KX
              clear hUM
              cases UM with
              | false =>
                have HE : Hid (1 = R) := H1.out hbt ht hm (fun ok => okB_up ok (List.mem_cons_self ..) HUM.out)
                go_wp2_with (go_at_call 40; refine KX.mono ?_; rintro e6 w6 ⟨rfl, hb6⟩)
                go_ret
                exact ⟨ret_int HE.out, hb0.trans (hb6.mono hb0.size)⟩
              | true =>
                go_wp2_with (go_at_call 40; refine KX.mono ?_; rintro e6 w2 ⟨rfl, hb6⟩; have hb2 : Below w.heap.size w w2 := hb0.trans (hb6.mono hb0.size); have c0 := cell_later hb6 k0; have c1 := cell_later hb6 k1; have c2 := cell_later hb6 k2; have lwz : w.heap.size < w2.heap.size := World.block_lt_of_cell? _ _ c0)
                go_loopw [6] (fun ii wr => ∃ k : Nat, k ≤ n ∧ ii = .int .i64 k ∧ Below w2.heap.size w2 wr ∧ ∀ j, j < k → upB (RN j) = true) (fun ii _ => n - (intOf ii).toNat)
                case atStart => exact ⟨0, Nat.zero_le _, rfl, Below.refl _ _, fun j hj => absurd hj (Nat.not_lt_zero j)⟩
                case round =>
                  obtain ⟨k, hk, rfl, hny, hur⟩ := hrel
                  have HUK : Hid (∀ j, j < k → upB (RN j) = true) := hur
                  have hby : Below w.heap.size w wr := hb2.trans (hny.mono hb2.size)
                  have d0 := cell_later hny c0
                  have d1 := cell_later hny c1
                  have d2 := cell_later hny c2
                  have lw2 : w.heap.size < wr.heap.size := World.block_lt_of_cell? _ _ d0
                  clear hur
                  by_cases hkn : k < n
                  · obtain ⟨b4, o4, e4, x4⟩ := HD.out k (by rw [List.length_map, HN.out.1]; exact hkn)
                    subst e4
                    have z0 := cell_later hby x4
                    have ee1 : (rs.map (·.1)).getD k (none, 0, 0) = (rs.getD k default).1 := by rw [List.getD_eq_getElem?_getD, List.getElem?_map, List.getElem?_eq_getElem (by rw [HN.out.1]; exact hkn), List.getD_eq_getElem?_getD, List.getElem?_eq_getElem (by rw [HN.out.1]; exact hkn)]; rfl
                    rw [ee1] at z0
                    have KX : Hid (Calls Try.prog 40 #[hdV (rs.getD k default).1] wr fun r w' => r = .returned (.bool (upB (RN k))) ∧ Below wr.heap.size wr w') := KR.out k wr hkn (Nat.le_trans (HLE.out k hkn) (by omega)) hby
                    obtain ⟨UB, hUB⟩ : ∃ z, upB (RN k) = z := ⟨_, rfl⟩
                    have HUB : Hid (upB (RN k) = UB) := hUB
                    rw [hUB] at KX
                    obtain ⟨⟨⟨s1, s2, s3⟩, sl⟩, hz⟩ : ∃ z, rs.getD k default = z := ⟨_, rfl⟩
                    rw [hz] at z0 KX
                    unfold hdV at z0 KX
                    dsimp only at z0 KX
                    have i1 : (0 : Int) ≤ (k : Int) := by omega
                    have i2 : (k : Int) < (n : Int) := by omega
                    clear hz hUB ee1 x4
                    cases UB with
                    | false =>
                      have HE : Hid (1 = R) := H1.out hbt ht hm (fun ok => okB_up ok (HRN.out k hkn) HUB.out)
                      go_wp2_with (go_at_call 40; refine KX.out.mono ?_; rintro e6 w6 ⟨rfl, hb6⟩)
                      go_ret
                      exact ⟨ret_int HE.out, hby.trans (hb6.mono hby.size)⟩
                    | true =>
                      go_wp2_with (go_at_call 40; refine KX.out.mono ?_; rintro e6 w6 ⟨rfl, hb6⟩)
                      go_roundw
                      case rel => exact ⟨k + 1, by omega, by go_num, hny.trans (hb6.mono hny.size), fun j hj => by
                        rcases Nat.lt_succ_iff_lt_or_eq.1 hj with h1 | h1
                        · exact HUK.out j h1
                        · rw [h1]; exact HUB.out⟩
                      case measure => simp [intOf] <;> omega
                  · have hke : k = n := by omega
                    subst hke
                    have HUR : Hid (∀ j, j < k → upB (RN j) = true) := HUK.out
                    have KX := KE.out wr (by omega) hby
                    go_wp2_with (go_at_call 41; refine KX.mono ?_; rintro e6 w3 ⟨⟨⟨q1, q2, q3⟩, es, l, f, rfl, hoe, hes⟩, hb3'⟩; have hb3 : Below w.heap.size w w3 := hby.trans (hb3'.mono hby.size); have HES3 : Hid (ES (entsB b) l f ∧ es.length = l.length) := ⟨hes, hoe.len⟩; have HER3 : Hid (ERs w3 es l) := hoe.ers; (try dsimp only); dsimp only at hoe; have hq2 : q2 = es.length := (by obtain ⟨ad, cp, e⟩ := hoe.form; cases e; rfl); subst hq2; have HAT3 : Hid (emsAt w3 q1 es) := hoe.at; obtain ⟨en, hen⟩ : ∃ z, es.length = z := ⟨_, rfl⟩; have HEN : Hid (es.length = en) := hen; rw [hen]; have hen2 : en ≤ 4096 := (by rw [← hen, hoe.len]; exact Nat.le_trans (HEL.out _ hes.len) ht); clear hoe hes hb3' hen)
                    go_loopw [8, 9] (fun fi ii wr => ∃ (k : Nat) (g : Bool), k ≤ en ∧ ii = .int .i64 k ∧ fi = .bool g ∧ Below w3.heap.size w3 wr ∧ (g = true ↔ f = true ∧ ∀ j, j < k → fineB (l.getD j default) = true)) (fun _ ii _ => en - (intOf ii).toNat)
                    case atStart => exact ⟨0, f, Nat.zero_le _, rfl, rfl, Below.refl _ _, by simp⟩
                    case round =>
                      obtain ⟨k, g, hk, rfl, rfl, hnz, hg⟩ := hrel
                      have HG : Hid (g = true ↔ f = true ∧ ∀ j, j < k → fineB (l.getD j default) = true) := hg
                      have hbz : Below w.heap.size w wr := hb3.trans (hnz.mono hb3.size)
                      clear hg
                      by_cases hke : k < en
                      · have hkl : k < l.length := by rw [← HES3.out.2, HEN.out]; exact hke
                        have i1 : (0 : Int) ≤ (k : Int) := by omega
                        have i2 : (k : Int) < (en : Int) := by omega
                        cases g with
                        | false =>
                          go_wp2
                          go_roundw
                          case rel => exact ⟨k + 1, false, by omega, by go_num, rfl, hnz, by
                            constructor
                            · intro h; cases h
                            · rintro ⟨h1, h2⟩; exact HG.out.2 ⟨h1, fun j hj => h2 j (by omega)⟩⟩
                          case measure => simp [intOf] <;> omega
                        | true =>
                          have HFT : Hid (f = true) := (HG.out.1 rfl).1
                          have hmem : l.getD k default ∈ entsB b := (HES3.out.1.perm HFT.out).mem_iff.1 (mem_getD hkl)
                          obtain ⟨b1, o1, ee, x1, x2, x3, x4, x5⟩ := HAT3.out k (by rw [HEN.out]; exact hke)
                          subst ee
                          have z1 := cell_later hnz x1
                          have z2 := cell_later hnz x2
                          have z3 := cell_later hnz x3
                          have z4 := cell_later hnz x4
                          have z5 := cell_later hnz x5
                          have KX : Hid (Calls Try.prog 42 #[(es.getD k default).val] wr fun r w' => r = .returned (.bool (fineB (l.getD k default))) ∧ Below wr.heap.size wr w') := KF.out _ _ wr ((HER3.out.2 k hkl).below hnz) hmem
                          obtain ⟨FB, hFB⟩ : ∃ z, fineB (l.getD k default) = z := ⟨_, rfl⟩
                          have HFB : Hid (fineB (l.getD k default) = FB) := hFB
                          rw [hFB] at KX
                          obtain ⟨⟨fk, ft, fs, ⟨f1, f3, f4⟩, fm⟩, hz⟩ : ∃ z, es.getD k default = z := ⟨_, rfl⟩
                          rw [hz] at z1 z2 z3 z4 z5 KX
                          unfold EM.val at KX
                          unfold hdV at z4
                          dsimp only at z1 z2 z3 z4 z5 KX
                          rw [show hdV (f1, f3, f4) = .slice f1 f3 f4 from rfl] at KX
                          clear hz hFB x1 x2 x3 x4 x5 hmem
                          go_wp2_with (go_at_call 42; refine KX.out.mono ?_; rintro e6 w6 ⟨rfl, hb6⟩)
                          have HG6 : Hid (FB = true ↔ f = true ∧ ∀ j, j < k + 1 → fineB (l.getD j default) = true) := by
                            constructor
                            · intro h
                              refine ⟨HFT.out, fun j hj => ?_⟩
                              rcases Nat.lt_succ_iff_lt_or_eq.1 hj with h1 | h1
                              · exact (HG.out.1 (by trivial)).2 j h1
                              · rw [h1, HFB.out]; exact h
                            · rintro ⟨_, h2⟩
                              rw [← HFB.out]; exact h2 k (by omega)
                          go_roundw
                          case rel => exact ⟨k + 1, FB, by omega, by go_num, rfl, hnz.trans (hb6.mono hnz.size), HG6.out⟩
                          case measure => simp [intOf] <;> omega
                      · have hkn : k = en := by omega
                        subst hkn
                        cases g with
                        | false =>
                          have HE : Hid (1 = R) := H1.out hbt ht hm (fun ok => by
                            have h9 := HES3.out.1.fine.2 ok.once
                            have : false = true := HG.out.2 ⟨h9, fun j hj => by
                              cases e : fineB (l.getD j default) with
                              | true => rfl
                              | false => exact (okB_ent ok HES3.out.1 (by rw [← HES3.out.2, HEN.out]; exact hj) e).elim⟩
                            cases this)
                          go_wp2
                          go_ret
                          exact ⟨ret_int HE.out, hbz⟩
                        | true =>
                          have HE : Hid (0 = R) := H0.out l f hbt ht hm HHOL.out HUM.out HUR.out HES3.out.1 ⟨(HG.out.1 rfl).1, fun j hj => (HG.out.1 rfl).2 j (by rw [← HEN.out, HES3.out.2]; exact hj)⟩
                          go_wp2
                          go_ret
                          exact ⟨ret_int HE.out, hbz⟩
end Go.Proofs.Ytnfknkihiapgiaa.bf
