/- The document's OutOf; sameInts. -/
import Derived.Test.YtibjihdeknndoaaPlnOut
namespace Go.Proofs.Ytibjihdeknndoaa.pl
open Go.ChangeShapes Go.WideShapes Go.ChangeAt Go.RowKit
open vl
set_option linter.unusedVariables false
set_option linter.unusedSimpArgs false
theorem figT_low {c : List Int} {a : Int × Int} (h : a.1 ≤ 2) : figT c a = 2 := if_neg (by omega)
theorem figT_high {c : List Int} {a : Int × Int} (h : 2 < a.1) (h4 : a.1 ≤ 4) : figT c a = c.getD a.2.toNat 0 := if_pos (by omega)
set_option maxRecDepth 10000 in
set_option maxHeartbeats 8000000 in
theorem outOf_any (p : Pln) (x : PA) (w : World) (hw : wfPlan p) (hp : planAt w p x) (h0 : planErr p = 0) :
    Calls Try.prog 12 #[planV p x] w fun e w' => (∃ ad cap, e = .returned (.slice ad (outL p).length cap) ∧ intsAt w' ad (outL p)) ∧ Below w.heap.size w w' := by
  have hok := planErr_ok h0
  have hm := many_len hok.2.2.1
  have K2 : Hid (∀ w1, Below w.heap.size w w1 → Calls Try.prog 29 #[planV p x] w1 fun e w' => (∃ ad cap, e = .returned (.slice ad (cols p).length cap) ∧ ownI w' w1.heap.size (.slice ad (cols p).length cap) (cols p)) ∧ Below w1.heap.size w1 w') := fun w1 hb => rtypes_any p x w1 (planAt_below hp hb) (by omega) (by omega) (by omega) (by omega)
  have HG1 : Hid (∀ j, j < p.group.length → 0 ≤ p.group.getD j 0 ∧ p.group.getD j 0 < ((cols p).length : Int)) := form_g hok.2.2.2.2
  have hg2 : p.group.length ≤ 8 := by omega
  have hg3 : p.aggs.length ≤ 4 := by omega
  have hg4 : (cols p).length ≤ 8 := by unfold cols; rw [List.length_append]; omega
  have HAG : yes p.grouped (∀ j, j < p.aggs.length → aggOk (cols p) (p.aggs.getD j (0, 0)) ∧ (1 ≤ (p.aggs.getD j (0, 0)).1 ∧ (p.aggs.getD j (0, 0)).1 ≤ 4)) := fun hg j hj => ⟨form_a hok.2.2.2.2 j hj, hok.1.2.2 hg _ (getD_mem hj)⟩
  have HOLT : yes p.grouped (outL p = p.group.map (fun i => (cols p).getD i.toNat 0) ++ p.aggs.map (figT (cols p))) := fun h => if_pos h
  have HOLF : yes (!p.grouped) (outL p = cols p) := fun h => if_neg (by simpa using h)
  have HPG : Hid (intsAt w x.g p.group) := hp.g
  have HPA : Hid (aggsAt w x.a p.aggs) := hp.a
  obtain ⟨cs, hcs⟩ : ∃ z, cols p = z := ⟨_, rfl⟩
  rw [hcs] at K2 HG1 HAG HOLT HOLF hg4
  obtain ⟨ol, hol⟩ : ∃ z, outL p = z := ⟨_, rfl⟩
  rw [hol] at HOLT HOLF ⊢
  clear hcs hol hw hp hok hm h0
  obtain ⟨on, hon⟩ : ∃ z, ol.length = z := ⟨_, rfl⟩
  have HON : Hid (ol.length = on) := hon
  rw [hon]
  clear hon
  obtain ⟨kind, mode, low, high, size, limit, left, right, lkeys, rkeys, grouped, group, aggs⟩ := p
  obtain ⟨l, lc, r, rc, lk, lkc, rk, rkc, g, gc, a, ac⟩ := x
  unfold planV at K2 ⊢
  dsimp only at K2 HG1 HAG HOLT HOLF HPG HPA hg2 hg3 ⊢
  obtain ⟨n6, h6⟩ : ∃ n, left.length = n := ⟨_, rfl⟩
  obtain ⟨n7, h7⟩ : ∃ n, right.length = n := ⟨_, rfl⟩
  obtain ⟨n8, h8⟩ : ∃ n, lkeys.length = n := ⟨_, rfl⟩
  obtain ⟨n9, h9⟩ : ∃ n, rkeys.length = n := ⟨_, rfl⟩
  obtain ⟨n11, h11⟩ : ∃ n, group.length = n := ⟨_, rfl⟩
  obtain ⟨n12, h12⟩ : ∃ n, aggs.length = n := ⟨_, rfl⟩
  obtain ⟨cn, hcn⟩ : ∃ n, cs.length = n := ⟨_, rfl⟩
  have H11 : Hid (group.length = n11) := h11
  have H12 : Hid (aggs.length = n12) := h12
  have HCN : Hid (cs.length = cn) := hcn
  rw [h6, h7, h8, h9, h11, h12, hcn] at K2
  rw [h11, hcn] at HG1
  rw [h12] at HAG hg3
  rw [h11] at hg2
  rw [hcn] at hg4
  rw [h6, h7, h8, h9, h11, h12]
  clear h6 h7 h8 h9 h11 h12 hcn
  go_enter Try.func12, Try.ntmps12
  go_wp2_with fail
  refine (K2.out _ ((Below.refl _ _).alloc (Nat.le_refl _) _)).mono ?_
  rintro e w2 ⟨⟨ad, cap, rfl, ho⟩, hb2⟩
  have hbb := ((Below.refl _ _).alloc (Nat.le_refl _) _).trans (hb2.mono (by simp))
  have HIC : Hid (intsAt w2 ad cs) := (ownI_at ho).1
  have s10 : w2.cell? ⟨w.heap.size, 10, none⟩ = some (.bool grouped) := by rw [(bcell hb2).1 _ _ (by simp)]; go_simp
  have s11 : w2.cell? ⟨w.heap.size, 11, none⟩ = some (.slice g n11 gc) := by rw [(bcell hb2).1 _ _ (by simp)]; go_simp
  have s12 : w2.cell? ⟨w.heap.size, 12, none⟩ = some (.slice a n12 ac) := by rw [(bcell hb2).1 _ _ (by simp)]; go_simp
  clear hb2 ho K2
  cases grouped with
  | false =>
    have HOL : Hid (ol = cs) := HOLF rfl
    have HCO : Hid (cn = on) := by show cn = on; rw [← HON.out, HOL.out, HCN.out]
    clear HOLT HOLF
    go_wp2
    go_ret
    exact ⟨⟨ad, cap, by rw [← HCO.out]; rfl, by rw [HOL.out]; exact HIC.out⟩, hbb⟩
  | true =>
    have HOL : Hid (ol = group.map (fun i => cs.getD i.toNat 0) ++ aggs.map (figT cs)) := HOLT rfl
    have HAG1 : Hid (∀ j, j < n12 → aggOk cs (aggs.getD j (0, 0)) ∧ (1 ≤ (aggs.getD j (0, 0)).1 ∧ (aggs.getD j (0, 0)).1 ≤ 4)) := HAG rfl
    clear HAG HOLT HOLF
    go_wp2
    go_loopw [4, 5] (fun v i wr => ∃ k : Nat, k ≤ n11 ∧ i = .int .i64 k ∧ ownI wr w2.heap.size v ((group.take k).map (fun i => cs.getD i.toNat 0)) ∧ Below w2.heap.size w2 wr) (fun _ i _ => n11 - (intOf i).toNat)
    case atStart => exact ⟨0, Nat.zero_le _, rfl, World.ownsRow_nil _ _ _ _, Below.refl _ _⟩
    case round =>
      obtain ⟨k, hk, rfl, hov, hnx⟩ := hrel
      have HO : Hid (ownI wr w2.heap.size u4 ((group.take k).map (fun i => cs.getD i.toNat 0))) := hov
      have hsz := hnx.size
      have hbr := hbb.trans (hnx.mono hbb.size)
      have c11 := cell_later hnx s11
      clear hov
      by_cases hlt : k < n11
      · obtain ⟨b, o, e, xk⟩ := HPG.out k (by rw [H11.out]; exact hlt)
        subst e
        have hpk := HG1.out k hlt
        have HT : Hid ((group.take (k + 1)).map (fun i => cs.getD i.toNat 0) = (group.take k).map (fun i => cs.getD i.toNat 0) ++ [cs.getD (group.getD k 0).toNat 0]) := by
          show (group.take (k + 1)).map _ = _
          rw [take_snocI group k (by rw [H11.out]; exact hlt), List.map_append]; rfl
        have HLN : ((group.take k).map (fun i => cs.getD i.toNat 0)).length ≤ 8 := by rw [List.length_map, List.length_take]; omega
        obtain ⟨z, hz⟩ : ∃ z, group.getD k 0 = z := ⟨_, rfl⟩
        rw [hz] at xk hpk HT
        obtain ⟨zn, rfl⟩ := Int.eq_ofNat_of_zero_le hpk.1
        rw [Int.toNat_natCast] at HT
        obtain ⟨b1, o1, e1, x1⟩ := HIC.out zn (by rw [HCN.out]; omega)
        subst e1
        have qk := cell_later hbr xk
        have q1 := cell_later hnx x1
        obtain ⟨cv, hcv⟩ : ∃ z, cs.getD zn 0 = z := ⟨_, rfl⟩
        rw [hcv] at q1 HT
        obtain ⟨pr, hpr⟩ : ∃ z, (group.take k).map (fun i => cs.getD i.toNat 0) = z := ⟨_, rfl⟩
        rw [hpr] at HO HT HLN
        have i1 : (0 : Int) ≤ (k : Int) := by omega
        have i2 : (k : Int) < (n11 : Int) := by omega
        have i3 : (0 : Int) ≤ (zn : Int) := by omega
        have i4 : (zn : Int) < (cn : Int) := by omega
        clear xk x1 hz hcv hpk hpr
        go_wp2_with (at_builtin; refine append_int rfl (.tmp 20) (.tmp 29) rfl w2.heap.size u4 pr rfl wr HO.out cv wr.heap.size rfl rfl (by omega) hsz ?_; intro v2 w3 hown3 hgrow3)
        obtain ⟨ad2, c2, hv, _⟩ := own_form hown3
        have hbn := below_appendI hnx hsz HO.out hgrow3
        subst hv
        go_roundw
        case rel => exact ⟨k + 1, by omega, by go_num, by rw [HT.out]; exact hown3, hbn⟩
        case measure => simp [intOf]; omega
      · have HT : Hid (group.take k = group) := List.take_of_length_le (by rw [H11.out]; omega)
        have HO2 : Hid (ownI wr w2.heap.size u4 (group.map (fun i => cs.getD i.toNat 0))) := by
          have := HO.out; rw [HT.out] at this; exact this
        have hgl : (group.map (fun i => cs.getD i.toNat 0)).length ≤ 8 := by rw [List.length_map, H11.out]; exact hg2
        obtain ⟨gl, hglv⟩ : ∃ z, group.map (fun i => cs.getD i.toNat 0) = z := ⟨_, rfl⟩
        rw [hglv] at HO2 HOL hgl
        clear HO HT hglv
        go_wp2
        go_loopw [4, 6] (fun v i wr => ∃ k : Nat, k ≤ n12 ∧ i = .int .i64 k ∧ ownI wr w2.heap.size v (gl ++ (aggs.take k).map (figT cs)) ∧ Below w2.heap.size w2 wr) (fun _ i _ => n12 - (intOf i).toNat)
        case atStart => exact ⟨0, Nat.zero_le _, rfl, by simpa using HO2.out, hnx⟩
        case round =>
          obtain ⟨m, hm, rfl, hov2, hnx2⟩ := hrel
          have HO3 : Hid (ownI wr w2.heap.size u4 (gl ++ (aggs.take m).map (figT cs))) := hov2
          have hsz2 := hnx2.size
          have hbr2 := hbb.trans (hnx2.mono hbb.size)
          have c12 := cell_later hnx2 s12
          clear hov2
          by_cases hlt2 : m < n12
          · obtain ⟨b, o, e, xa, xb⟩ := HPA.out m (by rw [H12.out]; exact hlt2)
            subst e
            have qa := cell_later hbr2 xa
            have qb := cell_later hbr2 xb
            have hag := HAG1.out m hlt2
            have HT : Hid (gl ++ (aggs.take (m + 1)).map (figT cs) = gl ++ (aggs.take m).map (figT cs) ++ [figT cs (aggs.getD m (0, 0))]) := by
              show gl ++ (aggs.take (m + 1)).map (figT cs) = _
              rw [takeA aggs m (by rw [H12.out]; exact hlt2), List.map_append, ← List.append_assoc]; rfl
            have HLN : (gl ++ (aggs.take m).map (figT cs)).length ≤ 100 := by rw [List.length_append, List.length_map, List.length_take]; omega
            obtain ⟨⟨fv, kv⟩, hfk⟩ : ∃ z, aggs.getD m (0, 0) = z := ⟨_, rfl⟩
            rw [hfk] at qa qb hag HT
            dsimp only at qa qb hag
            obtain ⟨hag1, hag2, hag3⟩ := hag
            obtain ⟨pr, hpr⟩ : ∃ z, gl ++ (aggs.take m).map (figT cs) = z := ⟨_, rfl⟩
            rw [hpr] at HO3 HT HLN
            have i1 : (0 : Int) ≤ (m : Int) := by omega
            have i2 : (m : Int) < (n12 : Int) := by omega
            clear xa xb hfk hpr
            by_cases hf2 : fv ≤ 2
            · have HT2 : Hid (gl ++ (aggs.take (m + 1)).map (figT cs) = pr ++ [2]) := by
                have := HT.out; rw [figT_low (c := cs) (a := (fv, kv)) hf2] at this; exact this
              clear HT hag1
              go_wp2_with (at_builtin; refine append_int rfl (.tmp 45) (.tmp 46) rfl w2.heap.size u4 pr rfl wr HO3.out 2 wr.heap.size rfl rfl (by omega) hsz2 ?_; intro v2 w3 hown3 hgrow3)
              obtain ⟨ad2, c2, hv, _⟩ := own_form hown3
              have hbn := below_appendI hnx2 hsz2 HO3.out hgrow3
              subst hv
              go_roundw
              case rel => exact ⟨m + 1, by omega, by go_num, by rw [HT2.out]; exact hown3, hbn⟩
              case measure => simp [intOf]; omega
            · have hk : 0 ≤ kv ∧ kv < (cn : Int) := by
                unfold aggOk at hag1
                dsimp only at hag1
                rw [if_neg (by omega), HCN.out] at hag1
                exact hag1.1
              obtain ⟨zn, rfl⟩ := Int.eq_ofNat_of_zero_le hk.1
              obtain ⟨b1, o1, e1, x1⟩ := HIC.out zn (by rw [HCN.out]; omega)
              subst e1
              have q1 := cell_later hnx2 x1
              have HT2 : Hid (gl ++ (aggs.take (m + 1)).map (figT cs) = pr ++ [cs.getD zn 0]) := by
                have := HT.out; rw [figT_high (c := cs) (a := (fv, (zn : Int))) (by dsimp only; omega) hag3] at this; exact this
              obtain ⟨cv, hcv⟩ : ∃ z, cs.getD zn 0 = z := ⟨_, rfl⟩
              rw [hcv] at q1 HT2
              have i3 : (0 : Int) ≤ (zn : Int) := by omega
              have i4 : (zn : Int) < (cn : Int) := by omega
              clear HT hag1 hk hcv x1
              go_wp2_with (at_builtin; refine append_int rfl (.tmp 48) (.tmp 58) rfl w2.heap.size u4 pr rfl wr HO3.out cv wr.heap.size rfl rfl (by omega) hsz2 ?_; intro v2 w3 hown3 hgrow3)
              obtain ⟨ad2, c2, hv, _⟩ := own_form hown3
              have hbn := below_appendI hnx2 hsz2 HO3.out hgrow3
              subst hv
              go_roundw
              case rel => exact ⟨m + 1, by omega, by go_num, by rw [HT2.out]; exact hown3, hbn⟩
              case measure => simp [intOf]; omega
          · have HT : Hid (aggs.take m = aggs) := List.take_of_length_le (by rw [H12.out]; omega)
            have HO4 : Hid (ownI wr w2.heap.size u4 ol) := by
              have := HO3.out; rw [HT.out, ← HOL.out] at this; exact this
            obtain ⟨ad2, c2, hv, _⟩ := own_form HO4.out
            rw [HON.out] at hv
            subst hv
            have HIO : Hid (intsAt wr ad2 ol) := (ownI_at HO4.out).1
            clear HO3 HT
            go_wp2
            go_ret
            exact ⟨⟨ad2, c2, rfl, HIO.out⟩, hbr2⟩
theorem take_eqI {r1 r2 : List Int} {k : Nat} (h1 : k < r1.length) (h2 : k < r2.length) (h : r1.take k = r2.take k) (hk : r1.getD k 0 = r2.getD k 0) : r1.take (k + 1) = r2.take (k + 1) := by
  rw [take_snocI r1 k h1, take_snocI r2 k h2, h, hk]
set_option maxHeartbeats 2000000 in
theorem sameInts_any (a1 a2 : Option Addr) (c1 c2 : Nat) (l : List Int) (w : World) (h1 : intsAt w a1 l) (h2 : intsAt w a2 l) (hl : l.length ≤ 1000000) :
    Calls Try.prog 11 #[.slice a1 l.length c1, .slice a2 l.length c2] w fun e w' => e = .returned (.bool true) ∧ Below w.heap.size w w' := by
  obtain ⟨n, hn⟩ : ∃ z, l.length = z := ⟨_, rfl⟩
  have HN : Hid (l.length = n) := hn
  rw [hn] at hl ⊢
  clear hn
  have hne : ((n : Int) != n) = false := by simp
  go_enter Try.func11, Try.ntmps11
  go_wp2
  go_loopw [5] (fun i wr => ∃ k : Nat, k ≤ n ∧ i = .int .i64 k ∧ Below w.heap.size w wr) (fun i _ => n - (intOf i).toNat)
  case atStart => exact ⟨0, Nat.zero_le _, rfl, Below.refl _ _⟩
  case round =>
    obtain ⟨k, hk, rfl, hnx⟩ := hrel
    by_cases hlt : k < n
    · obtain ⟨b1, o1, e1, x1⟩ := h1 k (by rw [HN.out]; exact hlt)
      obtain ⟨b2, o2, e2, x2⟩ := h2 k (by rw [HN.out]; exact hlt)
      subst e1 e2
      have q1 := cell_later hnx x1
      have q2 := cell_later hnx x2
      obtain ⟨z, hz⟩ : ∃ z, l.getD k 0 = z := ⟨_, rfl⟩
      rw [hz] at q1 q2
      clear x1 x2 hz h1 h2
      have i1 : (0 : Int) ≤ (k : Int) := by omega
      have i2 : (k : Int) < (n : Int) := by omega
      have hzz : (z != z) = false := by simp
      go_wp2
      go_quiet (fail)
      go_wp2
      go_roundw
      case rel => exact ⟨k + 1, by omega, by go_num, below_dn hnx _⟩
      case measure => simp [intOf]; omega
    · go_wp2
      go_ret
      exact ⟨rfl, hnx⟩
end Go.Proofs.Ytibjihdeknndoaa.pl
