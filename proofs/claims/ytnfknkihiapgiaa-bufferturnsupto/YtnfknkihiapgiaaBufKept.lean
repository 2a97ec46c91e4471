/- keptOf: the entries that stay, made anew. -/
import Derived.Test.YtnfknkihiapgiaaBufFresh
namespace Go.Proofs.Ytnfknkihiapgiaa.bf
open Go.ChangeShapes Go.WideShapes Go.ChangeAt Go.RowKit
open vl
set_option linter.unusedVariables false
set_option linter.unusedSimpArgs false
theorem cell_five_new (w : World) (a b c d e : Value) (t : TypeId) : ∀ j u, [a, b, c, d, e][j]? = some u → (w.alloc (.cells #[a, b, c, d, e] t)).cell? ((⟨w.heap.size, 0, none⟩ : Addr).add j) = some u := by
  intro j u hu
  rw [add_at]
  match j, hu with
  | 0, hu => simp at hu; subst hu; simp [go_sem]
  | 1, hu => simp at hu; subst hu; simp [go_sem]
  | 2, hu => simp at hu; subst hu; simp [go_sem]
  | 3, hu => simp at hu; subst hu; simp [go_sem]
  | 4, hu => simp at hu; subst hu; simp [go_sem]
  | (n + 5), hu => simp at hu
theorem filter_succ {l : List Ent} {P : Ent → Bool} {k : Nat} (h : k < l.length) : (l.take (k + 1)).filter P = (l.take k).filter P ++ (if P (l.getD k default) = true then [l.getD k default] else []) := by
  rw [List.take_succ_eq_append_getElem h, List.filter_append]
  have e : l.getD k default = l[k] := by rw [List.getD_eq_getElem?_getD, List.getElem?_eq_getElem h]; rfl
  rw [e]
  congr 1
  simp only [List.filter_cons, List.filter_nil]
set_option maxHeartbeats 4000000 in
theorem keptOf_any (fn : FuncId) (eg : ∀ args w, (callFunc fn args).run Try.prog w = .ok (.enter fn args) w) (caps : Array Value) (P : Ent → Bool) (a : Option Addr) (cap : Nat) (es : List EM) (l : List Ent) (w : World) (hl : l.length ≤ 100000) (ha : emsAt w a es) (hr : ERs w es l) (hrow : ∀ x ∈ l, x.row.length ≤ 1000000)
    (H : ∀ i w1, i < l.length → Below w.heap.size w w1 → Calls Try.prog fn (#[(es.getD i default).val] ++ caps) w1 fun e w' => e = .returned (.bool (P (l.getD i default))) ∧ Below w1.heap.size w1 w') :
    Calls Try.prog 62 #[.slice a l.length cap, .func (.func fn) #[] caps] w fun e w' => (∃ v es', e = .returned v ∧ OE w' w.heap.size v es' (l.filter P)) ∧ Below w.heap.size w w' := by
  obtain ⟨i0, hi0, hz0, hz1, hz2⟩ := info_parts infoE
  have HI : Hid (Try.prog.info? 28 = some i0 ∧ i0.zero = some (.agg #[.string ⟨#[]⟩, .int .i64 0, .int .i64 0, .slice none 0 0, .bool false]) ∧ i0.size = 5 ∧ i0.bytes = 64) := ⟨hi0, hz0, hz1, hz2⟩
  clear hi0 hz0 hz1 hz2
  have HH : Hid (∀ i w1, i < l.length → Below w.heap.size w w1 → Calls Try.prog fn (#[(es.getD i default).val] ++ caps) w1 fun e w' => e = .returned (.bool (P (l.getD i default))) ∧ Below w1.heap.size w1 w') := H
  have HR : Hid (emsAt w a es ∧ ERs w es l ∧ ∀ x ∈ l, x.row.length ≤ 1000000) := ⟨ha, hr, hrow⟩
  clear H ha hr hrow
  obtain ⟨n, hn⟩ : ∃ n, l.length = n := ⟨_, rfl⟩
  have HN : Hid (l.length = n) := hn
  rw [hn] at hl ⊢
  clear hn
  go_enter Try.func62, Try.ntmps62
  go_wp2
  go_loopw [5, 10] (fun x i wr => ∃ (k : Nat) (es' : List EM), k ≤ n ∧ i = .int .i64 k ∧ OE wr w.heap.size x es' ((l.take k).filter P) ∧ Below w.heap.size w wr) (fun _ i _ => n - (intOf i).toNat)
  case atStart => exact ⟨0, [], Nat.zero_le _, rfl, OE_nil (Nat.le_refl _), Below.refl _ _⟩
  case round =>
    obtain ⟨k, es', hk, rfl, hoe, hnx⟩ := hrel
    have HOE : Hid (OE wr w.heap.size u5 es' ((l.take k).filter P)) := hoe
    clear hoe
    by_cases hlt : k < n
    · have hkl : k < l.length := by rw [HN.out]; exact hlt
      obtain ⟨b, o, e, x1, x2, x3, x4, x5⟩ := HR.out.1 k (by rw [HR.out.2.1.1]; exact hkl)
      subst e
      have q1 := cell_later hnx x1
      have q2 := cell_later hnx x2
      have q3 := cell_later hnx x3
      have q4 := cell_later hnx x4
      have q5 := cell_later hnx x5
      clear x1 x2 x3 x4 x5
      have i1 : (0 : Int) ≤ (k : Int) := by omega
      have i2 : (k : Int) < (n : Int) := by omega
      have KK : Hid (∀ w1, Below wr.heap.size wr w1 → Calls Try.prog fn (#[(es.getD k default).val] ++ caps) w1 fun e w' => e = .returned (.bool (P (l.getD k default))) ∧ Below w1.heap.size w1 w') := fun w1 hb => HH.out k w1 hkl (hnx.trans (hb.mono hnx.size))
      have her : ER w (es.getD k default) (l.getD k default) := HR.out.2.1.2 k hkl
      have hrl : (l.getD k default).row.length ≤ 1000000 := HR.out.2.2 _ (by rw [List.getD_eq_getElem?_getD, List.getElem?_eq_getElem hkl]; exact List.getElem_mem hkl)
      have KF : Hid (∀ w1, Below wr.heap.size wr w1 → Calls Try.prog 36 #[(es.getD k default).val] w1 fun r w' => (∃ ad c, r = .returned ((es.getD k default).to (ad, (l.getD k default).row.length, c)).val ∧ ownV w' w1.heap.size (.slice ad (l.getD k default).row.length c) (l.getD k default).row) ∧ Below w1.heap.size w1 w') := fun w1 hb => fresh_any _ _ w1 (her.below (hnx.trans (hb.mono hnx.size))) hrl
      have HF : Hid ((l.take (k + 1)).filter P = (l.take k).filter P ++ (if P (l.getD k default) = true then [l.getD k default] else [])) := filter_succ hkl
      have HER : Hid (ER w (es.getD k default) (l.getD k default)) := her
      have hel : es'.length ≤ 100000 := by
        have h1 := HOE.out.len
        have h2 := List.length_filter_le P (l.take k)
        rw [List.length_take] at h2
        omega
      obtain ⟨xx, hxx⟩ : ∃ z, l.getD k default = z := ⟨_, rfl⟩
      rw [hxx] at KK KF HF HER
      obtain ⟨⟨ek, et, es1, ⟨r1, r2, r3⟩, em⟩, hz⟩ : ∃ z, es.getD k default = z := ⟨_, rfl⟩
      rw [hz] at q1 q2 q3 q4 q5 KK KF HER
      unfold EM.val EM.to hdV at KF
      unfold EM.val hdV at KK
      unfold hdV at q4
      dsimp only at q1 q2 q3 q4 q5 KK KF
      clear hz hxx her hrl
      have hsz := hnx.size
      obtain ⟨rl, hrl⟩ : ∃ z, xx.row.length = z := ⟨_, rfl⟩
      have HRL : Hid (xx.row.length = rl) := hrl
      rw [hrl] at KF
      clear hrl
      cases hp : P xx with
      | false =>
        rw [hp] at KK HF
        go_wp2_with (go_at_fn fn; refine (KK.out _ ((Below.refl _ _).alloc (Nat.le_refl _) _)).mono ?_; rintro e w1 ⟨rfl, hb1⟩; have hbx : Below wr.heap.size wr w1 := ((Below.refl _ _).alloc (Nat.le_refl _) _).trans (hb1.mono (by simp)))
        go_roundw
        case rel => exact ⟨k + 1, es', by omega, by go_num, by rw [HF.out]; simpa using HOE.out.below hbx, hnx.trans (hbx.mono hsz)⟩
        case measure => simp [intOf]; omega
      | true =>
        rw [hp] at KK HF
        obtain ⟨en, hen⟩ : ∃ z, es'.length = z := ⟨_, rfl⟩
        have HEN : Hid (es'.length = en) := hen
        rw [hen] at hel
        clear hen
        go_wp2_with (first
          | (go_at_fn fn; refine (KK.out _ ((Below.refl _ _).alloc (Nat.le_refl _) _)).mono ?_; rintro e w1 ⟨rfl, hb1⟩; have hbx : Below wr.heap.size wr w1 := ((Below.refl _ _).alloc (Nat.le_refl _) _).trans (hb1.mono (by simp)); have y1 : w1.cell? ⟨wr.heap.size, 0, none⟩ = some (.string ek) := cell_later hb1 (by go_simp); have y2 : w1.cell? ⟨wr.heap.size, 1, none⟩ = some (.int .i64 et) := cell_later hb1 (by go_simp); have y3 : w1.cell? ⟨wr.heap.size, 2, none⟩ = some (.int .i64 es1) := cell_later hb1 (by go_simp); have y4 : w1.cell? ⟨wr.heap.size, 3, none⟩ = some (.slice r1 r2 r3) := cell_later hb1 (by go_simp); have y5 : w1.cell? ⟨wr.heap.size, 4, none⟩ = some (.bool em) := cell_later hb1 (by go_simp))
          | (go_at_call 36; refine (KF.out _ hbx).mono ?_; rintro e w2 ⟨⟨ad2, c2, rfl, hov⟩, hb2⟩; have hb12 : Below wr.heap.size wr w2 := hbx.trans (hb2.mono hbx.size); have HO2 : Hid (w2.ownsRow w.heap.size 28 5 u5 en (entCells es')) := (by have h := own_below HOE.out.own hb12; rw [HEN.out] at h; exact h); have hs2 : w.heap.size ≤ w2.heap.size := Nat.le_trans hsz hb12.size)
          | (at_builtin; refine wpList_append_own _ rfl (.tmp 17) (.tmp 20) 22 rfl w.heap.size 28 i0 (.agg #[.string ⟨#[]⟩, .int .i64 0, .int .i64 0, .slice none 0 0, .bool false]) 5 64 Try.underlying22 HI.out.1 HI.out.2.1 HI.out.2.2.1 HI.out.2.2.2 rfl (by decide) _ _ _ rfl (World.ownsRow.alloc HO2.out _) ⟨w2.heap.size, 0, none⟩ 1 1 [.string ek, .int .i64 et, .int .i64 es1, .slice ad2 rl c2, .bool em] rfl rfl (cell_five_new _ _ _ _ _ _ _) (by intro u hu; simp at hu; rcases hu with rfl | rfl | rfl | rfl | rfl <;> rfl) (by unfold maxLen; omega) (by omega) (by simp; omega) ?_; intro v3 w3 hown3 hgrow3 hnil3))
        obtain ⟨g3, c3, hv3⟩ : ∃ g c, v3 = .slice (some ⟨g, 0, none⟩) (en + 1) c := by
          rcases hown3.2 with ⟨_, h0⟩ | ⟨g, cap, cur, rfl, _⟩
          · exact absurd h0 (by omega)
          · exact ⟨_, _, rfl⟩
        subst hv3
        have HST := OE_snoc (e := ⟨ek, et, es1, (ad2, rl, c2), em⟩) (x := xx) (g := g3) (cap2 := c3) HOE.out hb12 ⟨HER.out.key, HER.out.time, HER.out.seq, HER.out.met, HRL.out.symm, by unfold hdV; dsimp only; exact own_mono hov (by have := hbx.size; omega)⟩ (by rw [HEN.out]; exact hown3) hgrow3
        rw [HEN.out] at HST
        go_roundw
        case rel => exact ⟨k + 1, _, by omega, by go_num, by rw [HF.out]; simpa using HST.1, hnx.trans HST.2⟩
        case measure => simp [intOf]; omega
    · have HT : Hid (l.take k = l) := List.take_of_length_le (by rw [HN.out]; omega)
      go_wp2
      go_ret
      exact ⟨⟨_, es', rfl, by have := HOE.out; rw [HT.out] at this; exact this⟩, hnx⟩
end Go.Proofs.Ytnfknkihiapgiaa.bf
