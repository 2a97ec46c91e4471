/- Out, and the document's OutOf; sameInts. -/
import Derived.Test.YtibjihdeknndoaaPlnKeyFor
namespace Go.Proofs.Ytibjihdeknndoaa.pl
open Go.ChangeShapes Go.WideShapes Go.ChangeAt Go.RowKit
open vl
set_option linter.unusedVariables false
set_option linter.unusedSimpArgs false
/-- 'append(out, n)' -/
theorem append_int {ops : Array Oper} {rest : List Oper} {o : Oper} {a : Act} {Q : Exit → Act → World → Prop} (hgd : o.guard = none) (s x : Operand)
    (ho : o.op = .call { callee := .builtin .append, args := #[s, x], argTypes := #[22, 22] }) (base : Nat) (v : Value) (l : List Int) (hs : a.eval s = v) (w0 : World)
    (hown : ownI w0 base v l) (n : Int) (B : Nat) (hB : w0.heap.size = B) (hx : a.eval x = .slice (some ⟨B, 0, none⟩) 1 1) (hl : l.length ≤ 1000000) (hb : base ≤ w0.heap.size)
    (h : ∀ v' w', ownI w' base v' (l ++ [n]) → (w0.alloc (.cells #[.int .i64 n] 3)).grownBy w' v.ownBlock → wpList Try.prog ops Q rest (a.put o.dst v') w') :
    wpList Try.prog ops Q (o :: rest) a (w0.alloc (.cells #[.int .i64 n] 3)) := by
  subst hB
  obtain ⟨i0, hi, hz0, hz1, hz2⟩ := info_parts Try.info3
  refine wpList_append_own _ hgd s x 22 ho base 3 i0 (.int .i64 0) 1 8 Try.underlying22 hi hz0 hz1 hz2 rfl (by decide) v l.length (l.map intV) hs
    (World.ownsRow.alloc hown _) ⟨w0.heap.size, 0, none⟩ 1 1 [.int .i64 n] hx rfl (cell_one_new _ _ _) (by intro u hu; simp at hu; subst hu; rfl) (by unfold maxLen; omega) (by omega) (by simp; omega) ?_
  intro v' w' h1 h2 _
  refine h v' w' ?_ h2
  unfold ownI
  rw [List.length_append, List.map_append]
  exact h1
theorem below_appendI {base : Nat} {w w0 w' : World} {v : Value} {l : List Int} {o : Obj} (hb : Below base w w0) (h0 : base ≤ w0.heap.size) (hown : ownI w0 base v l) (hg : (w0.alloc o).grownBy w' v.ownBlock) : Below base w w' :=
  (hb.alloc h0 o).grown hg (by simp; omega) (fun k hk => (World.ownsRow.lt hown k hk).1)
def figT (c : List Int) (a : Int × Int) : Int := if a.1 = 3 ∨ a.1 = 4 then c.getD a.2.toNat 0 else 2
def outL (p : Pln) : List Int := if p.grouped = true then p.group.map (fun i => (cols p).getD i.toNat 0) ++ p.aggs.map (figT (cols p)) else cols p
set_option maxHeartbeats 1000000 in
theorem figType_any (f k : Int) (ad : Option Addr) (cp : Nat) (c : List Int) (w : World) (hc : intsAt w ad c) (hl : c.length ≤ 9223372036854775807) (ha : aggOk c (f, k)) (hf : 1 ≤ f ∧ f ≤ 4) :
    Calls Try.prog 24 #[.agg #[.int .i64 f, .int .i64 k], .slice ad c.length cp] w fun e w' => e = .returned (.int .i64 (figT c (f, k))) ∧ Below w.heap.size w w' := by
  have HT : Hid (figT c (f, k) = if f = 3 ∨ f = 4 then c.getD k.toNat 0 else 2) := rfl
  obtain ⟨n, hn⟩ : ∃ z, c.length = z := ⟨_, rfl⟩
  have HN : Hid (c.length = n) := hn
  have HA : Hid (f ≠ 1 → 0 ≤ k ∧ k < (n : Int)) := fun h => by
    unfold aggOk at ha
    dsimp only at ha
    rw [if_neg h] at ha
    rw [← hn]; exact ha.1
  rw [hn] at hl ⊢
  clear hn ha
  obtain ⟨ft, hft⟩ : ∃ z, figT c (f, k) = z := ⟨_, rfl⟩
  rw [hft] at HT ⊢
  clear hft
  by_cases h3 : f = 3 ∨ f = 4
  · rw [if_pos h3] at HT
    have hk := HA.out (by omega)
    obtain ⟨m, rfl⟩ := Int.eq_ofNat_of_zero_le hk.1
    rw [Int.toNat_natCast] at HT
    obtain ⟨b, o, e, xc⟩ := hc m (by rw [HN.out]; omega)
    subst e
    have hlt := World.block_lt_of_cell? _ _ xc
    have hlt' : b < w.heap.size := hlt
    obtain ⟨z, hz⟩ : ∃ z, c.getD m 0 = z := ⟨_, rfl⟩
    rw [hz] at xc HT
    have i1 : (0 : Int) ≤ (m : Int) := by omega
    have i2 : (m : Int) < (n : Int) := by omega
    have HT2 : Hid (ft = z) := HT.out
    clear hz hc hk HT HA hlt
    rcases h3 with rfl | rfl
    all_goals
      go_enter Try.func24, Try.ntmps24
      go_wp2
      go_ret
      exact ⟨ret_int HT2.out.symm, (Below.refl _ _).alloc (Nat.le_refl _) _⟩
  · rw [if_neg h3] at HT
    have f3 : (f == 3) = false := by simp; omega
    have f4 : (f == 4) = false := by simp; omega
    have HT2 : Hid (ft = 2) := HT.out
    clear h3 hc HT HA
    go_enter Try.func24, Try.ntmps24
    go_wp2
    go_ret
    exact ⟨ret_int HT2.out.symm, (Below.refl _ _).alloc (Nat.le_refl _) _⟩
theorem takeA (l : List (Int × Int)) (k : Nat) (h : k < l.length) : l.take (k + 1) = l.take k ++ [l.getD k (0, 0)] := by
  rw [List.take_succ_eq_append_getElem h]; simp [List.getD_eq_getElem?_getD, h]
theorem ret_si {v : Value} {a b : Int} (h : a = b) : Ending.returned (.tuple #[v, .int .i64 a]) = .returned (.tuple #[v, .int .i64 b]) := by rw [h]
/-- what Out answers -/
def outRes (p : Pln) (base : Nat) (e : Ending) (w' : World) : Prop :=
  (planErr p ≠ 0 ∧ e = .returned (.tuple #[.slice none 0 0, .int .i64 (planErr p)])) ∨
  (planErr p = 0 ∧ ∃ ad cap, e = .returned (.tuple #[.slice ad (outL p).length cap, .int .i64 0]) ∧ intsAt w' ad (outL p))
set_option maxRecDepth 10000 in
set_option maxHeartbeats 8000000 in
theorem out_any (p : Pln) (x : PA) (w : World) (hw : wfPlan p) (hp : planAt w p x) :
    Calls Try.prog 7 #[planV p x] w fun e w' => outRes p w.heap.size e w' ∧ Below w.heap.size w w' := by
  have K1 : Hid (∀ w1, Below w.heap.size w w1 → Calls Try.prog 10 #[planV p x] w1 fun e w' => e = .returned (.int .i64 (planErr p)) ∧ Below w1.heap.size w1 w') := fun w1 hb => planCheck_any p x w1 hw (planAt_below hp hb)
  have hokAll := fun h : planErr p = 0 => planErr_ok h
  have K2 : Hid (∀ w1, planErr p = 0 → Below w.heap.size w w1 → Calls Try.prog 23 #[planV p x] w1 fun e w' => (∃ ad cap, e = .returned (.slice ad (cols p).length cap) ∧ ownI w' w1.heap.size (.slice ad (cols p).length cap) (cols p)) ∧ Below w1.heap.size w1 w') := fun w1 h hb => by
    have hm := many_len (hokAll h).2.2.1
    exact joined_any p x w1 (planAt_below hp hb) (by omega) (by omega) (by omega) (by omega)
  have HG : Hid (planErr p = 0 → (∀ j, j < p.group.length → 0 ≤ p.group.getD j 0 ∧ p.group.getD j 0 < ((cols p).length : Int)) ∧ p.group.length ≤ 8 ∧ p.aggs.length ≤ 4 ∧ (cols p).length ≤ 8) := fun h => by
    have hm := many_len (hokAll h).2.2.1
    refine ⟨form_g (hokAll h).2.2.2.2, by omega, by omega, ?_⟩
    unfold cols; rw [List.length_append]; omega
  have HAG : Hid (planErr p = 0 → p.grouped = true → ∀ j, j < p.aggs.length → aggOk (cols p) (p.aggs.getD j (0, 0)) ∧ (1 ≤ (p.aggs.getD j (0, 0)).1 ∧ (p.aggs.getD j (0, 0)).1 ≤ 4)) := fun h hg j hj => ⟨form_a (hokAll h).2.2.2.2 j hj, (hokAll h).1.2.2 hg _ (getD_mem hj)⟩
  have HOLT : yes p.grouped (outL p = p.group.map (fun i => (cols p).getD i.toNat 0) ++ p.aggs.map (figT (cols p))) := fun h => if_pos h
  have HOLF : yes (!p.grouped) (outL p = cols p) := fun h => if_neg (by simpa using h)
  have HPG : Hid (intsAt w x.g p.group) := hp.g
  have HPA : Hid (aggsAt w x.a p.aggs) := hp.a
  have HR1 : Hid (planErr p ≠ 0 → ∀ e w', e = .returned (.tuple #[.slice none 0 0, .int .i64 (planErr p)]) → outRes p w.heap.size e w') := fun h e w' he => .inl ⟨h, he⟩
  have HR2 : Hid (planErr p = 0 → ∀ e w' ad cap, e = .returned (.tuple #[.slice ad (outL p).length cap, .int .i64 0]) → intsAt w' ad (outL p) → outRes p w.heap.size e w') := fun h e w' ad cap he hi => .inr ⟨h, ad, cap, he, hi⟩
  obtain ⟨RES, hRES⟩ : ∃ z, outRes p w.heap.size = z := ⟨_, rfl⟩
  rw [hRES] at HR1 HR2 ⊢
  obtain ⟨pe, hpe⟩ : ∃ z, planErr p = z := ⟨_, rfl⟩
  rw [hpe] at K1 K2 HG HAG HR1 HR2
  obtain ⟨cs, hcs⟩ : ∃ z, cols p = z := ⟨_, rfl⟩
  rw [hcs] at K2 HG HAG HOLT HOLF
  obtain ⟨ol, hol⟩ : ∃ z, outL p = z := ⟨_, rfl⟩
  rw [hol] at HOLT HOLF HR2
  clear hRES hpe hcs hol hw hp hokAll
  obtain ⟨kind, mode, low, high, size, limit, left, right, lkeys, rkeys, grouped, group, aggs⟩ := p
  obtain ⟨l, lc, r, rc, lk, lkc, rk, rkc, g, gc, a, ac⟩ := x
  unfold planV at K1 K2 ⊢
  dsimp only at K1 K2 HG HAG HOLT HOLF HPG HPA ⊢
  obtain ⟨n6, h6⟩ : ∃ n, left.length = n := ⟨_, rfl⟩
  obtain ⟨n7, h7⟩ : ∃ n, right.length = n := ⟨_, rfl⟩
  obtain ⟨n8, h8⟩ : ∃ n, lkeys.length = n := ⟨_, rfl⟩
  obtain ⟨n9, h9⟩ : ∃ n, rkeys.length = n := ⟨_, rfl⟩
  obtain ⟨n11, h11⟩ : ∃ n, group.length = n := ⟨_, rfl⟩
  obtain ⟨n12, h12⟩ : ∃ n, aggs.length = n := ⟨_, rfl⟩
  obtain ⟨cn, hcn⟩ : ∃ n, cs.length = n := ⟨_, rfl⟩
  have H11 : Hid (group.length = n11) := h11
  have H12 : Hid (aggs.length = n12) := h12
  have HCN : Hid (cs.length = cn) := hcn
  rw [h6, h7, h8, h9, h11, h12] at K1
  rw [h6, h7, h8, h9, h11, h12, hcn] at K2
  rw [h11, h12, hcn] at HG
  rw [h12] at HAG
  rw [h6, h7, h8, h9, h11, h12]
  clear h6 h7 h8 h9 h11 h12 hcn
  go_enter Try.func7, Try.ntmps7
  go_wp2_with fail
  refine (K1.out _ ((Below.refl _ _).alloc (Nat.le_refl _) _)).mono ?_
  rintro e w1 ⟨rfl, hb1⟩
  have hba := ((Below.refl _ _).alloc (Nat.le_refl _) _).trans (hb1.mono (by simp))
  obtain ⟨hc1, hf1⟩ := bcell hb1
  have hz1 : w.heap.size < w1.heap.size := (by have := hb1.size; simp at this; omega)
  by_cases h0 : pe = 0
  · subst h0
    go_wp2_with fail
    refine (K2.out _ (by trivial) hba).mono ?_
    rintro e w2 ⟨⟨ad, cap, rfl, ho⟩, hb2⟩
    have hbb := hba.trans (hb2.mono hba.size)
    have HIC : Hid (intsAt w2 ad cs) := (ownI_at ho).1
    have s10 : w2.cell? ⟨w.heap.size, 10, none⟩ = some (.bool grouped) := by rw [(bcell hb2).1 _ _ hz1, hc1 _ _ (by simp)]; go_simp
    have s11 : w2.cell? ⟨w.heap.size, 11, none⟩ = some (.slice g n11 gc) := by rw [(bcell hb2).1 _ _ hz1, hc1 _ _ (by simp)]; go_simp
    have s12 : w2.cell? ⟨w.heap.size, 12, none⟩ = some (.slice a n12 ac) := by rw [(bcell hb2).1 _ _ hz1, hc1 _ _ (by simp)]; go_simp
    obtain ⟨hg1, hg2, hg3, hg4⟩ := HG.out (by trivial)
    have HG1 : Hid (∀ j, j < n11 → 0 ≤ group.getD j 0 ∧ group.getD j 0 < (cn : Int)) := hg1
    have HR : Hid (∀ e w' ad cap, e = .returned (.tuple #[.slice ad ol.length cap, .int .i64 0]) → intsAt w' ad ol → RES e w') := HR2.out (by trivial)
    clear hc1 hf1 hb1 hb2 ho K1 K2 hg1 HG HR1 HR2
    cases grouped with
    | false =>
      have HOL : Hid (ol = cs) := HOLF rfl
      clear HOLT HOLF
      go_wp2
      go_ret2
      exact ⟨HR.out _ _ ad cap (by rw [HOL.out, HCN.out]; rfl) (by rw [HOL.out]; exact HIC.out), hbb⟩
    | true =>
      have HOL : Hid (ol = group.map (fun i => cs.getD i.toNat 0) ++ aggs.map (figT cs)) := HOLT rfl
      clear HOLT HOLF
      have HAG1 : Hid (∀ j, j < n12 → aggOk cs (aggs.getD j (0, 0)) ∧ (1 ≤ (aggs.getD j (0, 0)).1 ∧ (aggs.getD j (0, 0)).1 ≤ 4)) := HAG.out (by trivial) (by trivial)
      clear HAG
      go_wp2
      go_loopw [6, 8, 25] (fun v _ i wr => ∃ k : Nat, k ≤ n11 ∧ i = .int .i64 k ∧ ownI wr w2.heap.size v ((group.take k).map (fun i => cs.getD i.toNat 0)) ∧ Below w2.heap.size w2 wr) (fun _ _ i _ => n11 - (intOf i).toNat)
      case atStart => exact ⟨0, Nat.zero_le _, rfl, World.ownsRow_nil _ _ _ _, Below.refl _ _⟩
      case round =>
        obtain ⟨k, hk, rfl, hov, hnx⟩ := hrel
        have HO : Hid (ownI wr w2.heap.size u6 ((group.take k).map (fun i => cs.getD i.toNat 0))) := hov
        have hsz := hnx.size
        have hbr := hbb.trans (hnx.mono hbb.size)
        have c12 := cell_later hnx s12
        clear hov
        by_cases hlt : k < n11
        · obtain ⟨b, o, e, xk⟩ := HPG.out k (by rw [H11.out]; exact hlt)
          subst e
          have hpk := HG1.out k hlt
          have HT : Hid ((group.take (k + 1)).map (fun i => cs.getD i.toNat 0) = (group.take k).map (fun i => cs.getD i.toNat 0) ++ [cs.getD (group.getD k 0).toNat 0]) := by
            show (group.take (k + 1)).map _ = _
            rw [take_snocI group k (by rw [H11.out]; exact hlt), List.map_append]; rfl
          have HLN : ((group.take k).map (fun i => cs.getD i.toNat 0)).length ≤ 8 := by rw [List.length_map, List.length_take]; omega
          obtain ⟨z, hz⟩ : ∃ z, group.getD k 0 = z := ⟨_, rfl⟩
          rw [hz] at xk hpk HT
          obtain ⟨zn, rfl⟩ := Int.eq_ofNat_of_zero_le hpk.1
          rw [Int.toNat_natCast] at HT
          obtain ⟨b1, o1, e1, x1⟩ := HIC.out zn (by rw [HCN.out]; omega)
          subst e1
          have qk := cell_later hbr xk
          have q1 := cell_later hnx x1
          obtain ⟨cv, hcv⟩ : ∃ z, cs.getD zn 0 = z := ⟨_, rfl⟩
          rw [hcv] at q1 HT
          obtain ⟨pr, hpr⟩ : ∃ z, (group.take k).map (fun i => cs.getD i.toNat 0) = z := ⟨_, rfl⟩
          rw [hpr] at HO HT HLN
          have i1 : (0 : Int) ≤ (k : Int) := by omega
          have i2 : (k : Int) < (n11 : Int) := by omega
          have i3 : (0 : Int) ≤ (zn : Int) := by omega
          have i4 : (zn : Int) < (cn : Int) := by omega
          clear xk x1 hz hcv hpk hpr
          go_wp2_with (at_builtin; refine append_int rfl (.tmp 29) (.tmp 34) rfl w2.heap.size u6 pr rfl wr HO.out cv wr.heap.size rfl rfl (by omega) hsz ?_; intro v2 w3 hown3 hgrow3)
          obtain ⟨ad2, c2, hv, _⟩ := own_form hown3
          have hbn := below_appendI hnx hsz HO.out hgrow3
          subst hv
          go_roundw
          case rel => exact ⟨k + 1, by omega, by go_num, by rw [HT.out]; exact hown3, hbn⟩
          case measure => simp [intOf]; omega
        · have HT : Hid (group.take k = group) := List.take_of_length_le (by rw [H11.out]; omega)
          have HO2 : Hid (ownI wr w2.heap.size u6 (group.map (fun i => cs.getD i.toNat 0))) := by
            have := HO.out; rw [HT.out] at this; exact this
          have hgl : (group.map (fun i => cs.getD i.toNat 0)).length ≤ 8 := by rw [List.length_map, H11.out]; exact hg2
          obtain ⟨gl, hglv⟩ : ∃ z, group.map (fun i => cs.getD i.toNat 0) = z := ⟨_, rfl⟩
          rw [hglv] at HO2 HOL hgl
          obtain ⟨W2, rfl⟩ : ∃ x, x = wr := ⟨_, rfl⟩
          have HIC2 : Hid (intsAt W2 ad cs) := intsAt_below HIC.out hnx
          clear HO HT hglv
          go_wp2
          go_loopw [6, 10, 40] (fun v _ i wr => ∃ k : Nat, k ≤ n12 ∧ i = .int .i64 k ∧ ownI wr w2.heap.size v (gl ++ (aggs.take k).map (figT cs)) ∧ Below w2.heap.size w2 wr) (fun _ _ i _ => n12 - (intOf i).toNat)
          case atStart => exact ⟨0, Nat.zero_le _, rfl, by simpa using HO2.out, hnx⟩
          case round =>
            obtain ⟨m, hm, rfl, hov2, hnx2⟩ := hrel
            have HO3 : Hid (ownI wr w2.heap.size u6 (gl ++ (aggs.take m).map (figT cs))) := hov2
            have hsz2 := hnx2.size
            have hbr2 := hbb.trans (hnx2.mono hbb.size)
            clear hov2
            by_cases hlt2 : m < n12
            · obtain ⟨b, o, e, xa, xb⟩ := HPA.out m (by rw [H12.out]; exact hlt2)
              subst e
              have qa := cell_later hbr2 xa
              have qb := cell_later hbr2 xb
              have hag := HAG1.out m hlt2
              have HT : Hid (gl ++ (aggs.take (m + 1)).map (figT cs) = gl ++ (aggs.take m).map (figT cs) ++ [figT cs (aggs.getD m (0, 0))]) := by
                show gl ++ (aggs.take (m + 1)).map (figT cs) = _
                rw [takeA aggs m (by rw [H12.out]; exact hlt2), List.map_append, ← List.append_assoc]; rfl
              have HLN : (gl ++ (aggs.take m).map (figT cs)).length ≤ 100 := by rw [List.length_append, List.length_map, List.length_take]; omega
              obtain ⟨⟨fv, kv⟩, hfk⟩ : ∃ z, aggs.getD m (0, 0) = z := ⟨_, rfl⟩
              rw [hfk] at qa qb hag HT
              dsimp only at qa qb hag
              have KF : Hid (∀ w1, Below w2.heap.size w2 w1 → Calls Try.prog 24 #[.agg #[.int .i64 fv, .int .i64 kv], .slice ad cn cap] w1 fun e w' => e = .returned (.int .i64 (figT cs (fv, kv))) ∧ Below w1.heap.size w1 w') := fun w1 hb => by
                have := figType_any fv kv ad cap cs w1 (intsAt_below HIC.out hb) (by rw [HCN.out]; omega) hag.1 hag.2
                rwa [HCN.out] at this
              obtain ⟨ft, hft⟩ : ∃ z, figT cs (fv, kv) = z := ⟨_, rfl⟩
              rw [hft] at KF HT
              obtain ⟨pr, hpr⟩ : ∃ z, gl ++ (aggs.take m).map (figT cs) = z := ⟨_, rfl⟩
              rw [hpr] at HO3 HT HLN
              have i1 : (0 : Int) ≤ (m : Int) := by omega
              have i2 : (m : Int) < (n12 : Int) := by omega
              clear xa xb hfk hag hft hpr
              go_wp2_with fail
              refine (KF.out _ (hnx2.alloc hsz2 _)).mono ?_
              rintro e w5 ⟨rfl, hb5⟩
              have hnx5 := (hnx2.alloc hsz2 _).trans (hb5.mono (by simp; omega))
              have HO5 : Hid (ownI w5 w2.heap.size u6 pr) := own_stay (own_stay HO3.out ((Below.refl _ _).alloc (Nat.le_refl _) _)) hb5
              have hsz5 := hnx5.size
              clear HO3
              go_wp2_with (at_builtin; refine append_int rfl (.tmp 44) (.tmp 48) rfl w2.heap.size u6 pr rfl w5 HO5.out ft w5.heap.size rfl rfl (by omega) hsz5 ?_; intro v2 w3 hown3 hgrow3)
              obtain ⟨ad2, c2, hv, _⟩ := own_form hown3
              have hbn := below_appendI hnx5 hsz5 HO5.out hgrow3
              subst hv
              go_roundw
              case rel => exact ⟨m + 1, by omega, by go_num, by rw [HT.out]; exact hown3, hbn⟩
              case measure => simp [intOf]; omega
            · have HT : Hid (aggs.take m = aggs) := List.take_of_length_le (by rw [H12.out]; omega)
              have HO4 : Hid (ownI wr w2.heap.size u6 ol) := by
                have := HO3.out; rw [HT.out, ← HOL.out] at this; exact this
              obtain ⟨ad2, c2, hv, _⟩ := own_form HO4.out
              subst hv
              have HIO : Hid (intsAt wr ad2 ol) := (ownI_at HO4.out).1
              clear HO3 HT
              go_wp2
              go_ret2
              exact ⟨HR.out _ _ ad2 c2 rfl HIO.out, hbr2⟩
  · have h0' : (pe != 0) = true := by simpa using h0
    have HR : Hid (∀ e w', e = .returned (.tuple #[.slice none 0 0, .int .i64 pe]) → RES e w') := HR1.out h0
    clear h0
    go_wp2
    go_ret2
    exact ⟨HR.out _ _ rfl, hba⟩
end Go.Proofs.Ytibjihdeknndoaa.pl
