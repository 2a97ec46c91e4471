/- sorted: the entries that stay, made anew, by rising places. -/
import Derived.Test.YtnfknkihiapgiaaBufSort3
import Derived.Test.YtnfknkihiapgiaaBufMade
namespace Go.Proofs.Ytnfknkihiapgiaa.bf
open Go.ChangeShapes Go.WideShapes Go.ChangeAt Go.RowKit Go.Shelf
open vl
set_option linter.unusedVariables false
set_option linter.unusedSimpArgs false
attribute [local go_sem] Oper.semAt_some
theorem step_append_in {F : Fence} {n : Nat} {ops : Array Oper} {o : Oper} {a : Act} {K : Act → World → Prop} {Q : Exit → Act → World → Prop} {E : Prop} {w w' : World} {v vx v' : Value} (s x : Operand) (t : TypeId) (hop : o.op = Op.call { callee := Callee.builtin Builtin.append, args := #[s, x], argTypes := #[t, t] })
    (hs : a.eval s = v) (hx : a.eval x = vx) (hw : Region.wanted o (yielded ops a.tmps) = true) (hrun : (Builtin.append_ #[t, t] o.type #[v, vx]).run Try.prog w = .ok v' w') (h : K (a.put o.dst v') w') :
    if Region.wanted o (yielded ops a.tmps) = true then Oper.wpIn F n Try.prog o a w K Q else E := by
  rw [if_pos hw]
  unfold Oper.wpIn
  refine ⟨?_, ?_⟩
  · simp [Oper.about, hop, resolve, Target.leads, Sem.run_pure]
  · rw [Oper.semAt_plain F _ _ (by rw [hop]; intro c hc'; cases hc')]
    simp [execOp, hop, resolve, invoke, builtin, hs, hx, hrun, Result.andThen]
    exact h
set_option maxRecDepth 100000 in
set_option maxHeartbeats 8000000 in
theorem sorted_fn (fn : FuncId) (eg : ∀ args w, (callFunc fn args).run Try.prog w = .ok (.enter fn args) w) (caps : Array Value) (P : Ent → Bool) (b : Buf) (x : BX) (w : World) (h : bufAt w b x) (hs : (entsB b).length ≤ 100000) (hrow : ∀ y ∈ entsB b, y.row.length ≤ 1000000)
    (H : ∀ e y w1, ER w1 e y → y ∈ entsB b → Below w.heap.size w w1 → Calls Try.prog fn (#[e.val] ++ caps) w1 fun r w' => r = .returned (.bool (P y)) ∧ Below w1.heap.size w1 w') :
    Calls Try.prog 52 #[bufV b x, .func (.func fn) #[] caps] w fun e w' => (∃ (hh : Hdr) (es' : List EM) (l' : List Ent), e = .returned (hdV hh) ∧ l'.Perm ((entsB b).filter P) ∧ (∀ i j, i < j → j < l'.length → ¬ ltP (l'.getD j default) (l'.getD i default)) ∧ OE w' w.heap.size (hdV hh) es' l') ∧ Below w.heap.size w w' := by
  obtain ⟨i0, hi0, hz0, hz1, hz2⟩ := info_parts infoE
  have HI : Hid (Try.prog.info? 28 = some i0 ∧ i0.zero = some (.agg #[.string ⟨#[]⟩, .int .i64 0, .int .i64 0, .slice none 0 0, .bool false]) ∧ i0.size = 5 ∧ i0.bytes = 64) := ⟨hi0, hz0, hz1, hz2⟩
  clear hi0 hz0 hz1 hz2
  have HB : Hid (bufAt w b x) := h
  have HER : Hid (ERs w (ems (x.m :: x.rs)) (entsB b)) := bufAt_ents h
  obtain ⟨L, hL⟩ : ∃ z, entsB b = z := ⟨_, rfl⟩
  rw [hL] at HER hs hrow H ⊢
  have HH : Hid (∀ e y w1, ER w1 e y → y ∈ L → Below w.heap.size w w1 → Calls Try.prog fn (#[e.val] ++ caps) w1 fun r w' => r = .returned (.bool (P y)) ∧ Below w1.heap.size w1 w') := H
  have HRO : Hid ((∀ y ∈ L, y.row.length ≤ 1000000) ∧ L.length ≤ 100000) := ⟨hrow, hs⟩
  clear hL h H hrow hs
  obtain ⟨ra, rc, ⟨⟨m1, m2, m3⟩, ml⟩, rs⟩ := x
  obtain ⟨lim, mem, runs⟩ := b
  unfold bufV
  dsimp only at HER ⊢
  rw [show hdV (m1, m2, m3) = .slice m1 m2 m3 from rfl]
  obtain ⟨n, hn⟩ : ∃ n, rs.length = n := ⟨_, rfl⟩
  have HN : Hid (rs.length = n) := hn
  rw [hn]
  clear hn
  refine (callsIn_wide (n := 0)).1 ?_
  refine callsIn_of_wp_marks Try.func52 rfl trivial ?_ rfl
  simp only [Try.ntmps52, List.size_toArray, List.length_cons, List.length_nil, Nat.reduceAdd, Nat.reduceSub, Array.replicate_succ, Array.replicate_zero, List.push_toArray, List.append_toArray, List.nil_append, List.cons_append]
  gi_wp2_with (refine ⟨trivial, rfl, ?_⟩; gi_at_call 61; refine (callsIn_wide.2 (all_any _ _ _ rfl rfl rfl _)).mono ?_; rintro e w' ⟨rfl, rfl⟩)
  have V0 : ((((w.alloc (.cells #[.int .i64 lim, .slice m1 m2 m3, .slice ra n rc] 25)).alloc (.cells #[.func (.func fn) #[] caps] 55)).alloc (.cells #[.slice none 0 0] 22)).alloc (.cells #[.int .i64 lim, .slice m1 m2 m3, .slice ra n rc] 25)).cell? ⟨w.heap.size + 1, 0, none⟩ = some (.func (.func fn) #[] caps) := by go_simp
  have V3 : ((((w.alloc (.cells #[.int .i64 lim, .slice m1 m2 m3, .slice ra n rc] 25)).alloc (.cells #[.func (.func fn) #[] caps] 55)).alloc (.cells #[.slice none 0 0] 22)).alloc (.cells #[.int .i64 lim, .slice m1 m2 m3, .slice ra n rc] 25)).cell? ⟨w.heap.size + 1 + 1, 0, none⟩ = some (.slice none 0 0) := by go_simp
  have V4 : ((((w.alloc (.cells #[.int .i64 lim, .slice m1 m2 m3, .slice ra n rc] 25)).alloc (.cells #[.func (.func fn) #[] caps] 55)).alloc (.cells #[.slice none 0 0] 22)).alloc (.cells #[.int .i64 lim, .slice m1 m2 m3, .slice ra n rc] 25)).frozen? ⟨w.heap.size + 1 + 1, 0, none⟩ = false := by go_simp
  have V5 : ((((w.alloc (.cells #[.int .i64 lim, .slice m1 m2 m3, .slice ra n rc] 25)).alloc (.cells #[.func (.func fn) #[] caps] 55)).alloc (.cells #[.slice none 0 0] 22)).alloc (.cells #[.int .i64 lim, .slice m1 m2 m3, .slice ra n rc] 25)).cell? ⟨w.heap.size + 1 + 1 + 1, 0, none⟩ = some (.int .i64 lim) := by go_simp
  have V6 : ((((w.alloc (.cells #[.int .i64 lim, .slice m1 m2 m3, .slice ra n rc] 25)).alloc (.cells #[.func (.func fn) #[] caps] 55)).alloc (.cells #[.slice none 0 0] 22)).alloc (.cells #[.int .i64 lim, .slice m1 m2 m3, .slice ra n rc] 25)).cell? ⟨w.heap.size + 1 + 1 + 1, 1, none⟩ = some (.slice m1 m2 m3) := by go_simp
  have V7 : ((((w.alloc (.cells #[.int .i64 lim, .slice m1 m2 m3, .slice ra n rc] 25)).alloc (.cells #[.func (.func fn) #[] caps] 55)).alloc (.cells #[.slice none 0 0] 22)).alloc (.cells #[.int .i64 lim, .slice m1 m2 m3, .slice ra n rc] 25)).cell? ⟨w.heap.size + 1 + 1 + 1, 2, none⟩ = some (.slice ra n rc) := by go_simp
  have V8 : Below w.heap.size w ((((w.alloc (.cells #[.int .i64 lim, .slice m1 m2 m3, .slice ra n rc] 25)).alloc (.cells #[.func (.func fn) #[] caps] 55)).alloc (.cells #[.slice none 0 0] 22)).alloc (.cells #[.int .i64 lim, .slice m1 m2 m3, .slice ra n rc] 25)) := by
    repeat (first | exact Below.refl _ _ | (refine Below.alloc ?_ (by simp <;> omega) _))
  have V9 : ((((w.alloc (.cells #[.int .i64 lim, .slice m1 m2 m3, .slice ra n rc] 25)).alloc (.cells #[.func (.func fn) #[] caps] 55)).alloc (.cells #[.slice none 0 0] 22)).alloc (.cells #[.int .i64 lim, .slice m1 m2 m3, .slice ra n rc] 25)).heap.size = w.heap.size + 1 + 1 + 1 + 1 := by simp
  have T1 : tyAt ((((w.alloc (.cells #[.int .i64 lim, .slice m1 m2 m3, .slice ra n rc] 25)).alloc (.cells #[.func (.func fn) #[] caps] 55)).alloc (.cells #[.slice none 0 0] 22)).alloc (.cells #[.int .i64 lim, .slice m1 m2 m3, .slice ra n rc] 25)) (w.heap.size + 1) 55 := tyAt_below (tyAt_below ⟨_, _, (by have h := World.alloc_heap_new (w.alloc (.cells #[.int .i64 lim, .slice m1 m2 m3, .slice ra n rc] 25)) (.cells #[.func (.func fn) #[] caps] 55); rw [World.size_alloc] at h; exact h)⟩ ((Below.refl _ _).alloc (Nat.le_refl _) _)) ((Below.refl _ _).alloc (Nat.le_refl _) _)
  have T2 : tyAt ((((w.alloc (.cells #[.int .i64 lim, .slice m1 m2 m3, .slice ra n rc] 25)).alloc (.cells #[.func (.func fn) #[] caps] 55)).alloc (.cells #[.slice none 0 0] 22)).alloc (.cells #[.int .i64 lim, .slice m1 m2 m3, .slice ra n rc] 25)) (w.heap.size + 1 + 1) 22 := tyAt_below ⟨_, _, (by have h := World.alloc_heap_new ((w.alloc (.cells #[.int .i64 lim, .slice m1 m2 m3, .slice ra n rc] 25)).alloc (.cells #[.func (.func fn) #[] caps] 55)) (.cells #[.slice none 0 0] 22); rw [World.size_alloc, World.size_alloc] at h; exact h)⟩ ((Below.refl _ _).alloc (Nat.le_refl _) _)
  have T3 : tyAt ((((w.alloc (.cells #[.int .i64 lim, .slice m1 m2 m3, .slice ra n rc] 25)).alloc (.cells #[.func (.func fn) #[] caps] 55)).alloc (.cells #[.slice none 0 0] 22)).alloc (.cells #[.int .i64 lim, .slice m1 m2 m3, .slice ra n rc] 25)) (w.heap.size + 1 + 1 + 1) 25 := ⟨_, _, (by have h := World.alloc_heap_new (((w.alloc (.cells #[.int .i64 lim, .slice m1 m2 m3, .slice ra n rc] 25)).alloc (.cells #[.func (.func fn) #[] caps] 55)).alloc (.cells #[.slice none 0 0] 22)) (.cells #[.int .i64 lim, .slice m1 m2 m3, .slice ra n rc] 25); rw [World.size_alloc, World.size_alloc, World.size_alloc] at h; exact h)⟩
  generalize ((((w.alloc (.cells #[.int .i64 lim, .slice m1 m2 m3, .slice ra n rc] 25)).alloc (.cells #[.func (.func fn) #[] caps] 55)).alloc (.cells #[.slice none 0 0] 22)).alloc (.cells #[.int .i64 lim, .slice m1 m2 m3, .slice ra n rc] 25)) = V at *
  have N1 : names (madeO w.heap.size (w.heap.size + 1 + 1)) V (w.heap.size + 1) := names_ty T1 (by decide) (by omega)
  have N3 : names (madeO w.heap.size (w.heap.size + 1 + 1)) V (w.heap.size + 1 + 1 + 1) := names_ty T3 (by decide) (by omega)
  have hit := iter_all HB.out V8 (w.heap.size + 1 + 1 + 1) (madeO w.heap.size (w.heap.size + 1 + 1)) V5 V6 (by rw [HN.out]; exact V7) N3 (fun k hk => names_low hk (by omega)) (fun k c f hk => ⟨by omega, fun c' f' e => by injection e with _ e2 _; exact absurd e2 (by decide)⟩) (fun k c f hk => ⟨by omega, fun c' f' e => by injection e with _ e2 _; exact absurd e2 (by decide)⟩)
  have HM0 : Hid (Mk V w.heap.size (w.heap.size + 1 + 1) (.slice none 0 0) [] []) := ⟨OE_nil (by omega), V3, V4, T2⟩
  clear V3 V4 V5 V6 V7 T1 T2 T3
  dsimp only at hit
  obtain ⟨E, hE⟩ : ∃ z, ems ((((m1, m2, m3) : Hdr), ml) :: rs) = z := ⟨_, rfl⟩
  rw [hE] at hit HER
  clear hE
  refine range_law (gf := 80) (lb := #[.pointer (some ⟨w.heap.size + 1 + 1 + 1, 0, none⟩)]) rfl (enters_of Try.func80 (by kernel_rfl) rfl) hit (Below.refl _ _) (fun x hx => by obtain ⟨p, _, rfl⟩ := List.mem_map.1 hx; rfl) (fun h k => KeepO.trans h k) (fun W l o o' _ h ho => KeepO.put W l o o' h ho)
    (fun i X => (∃ (v : Hdr) (es' : List EM), Mk X w.heap.size (w.heap.size + 1 + 1) (hdV v) es' ((L.take i).filter P)) ∧ KeepO (madeO w.heap.size (w.heap.size + 1 + 1)) V X ∧ Below w.heap.size w X) (fun c X => False)
    (fun i X X' row hs hg hr => by
      obtain ⟨⟨v, es', hm⟩, h2, h3⟩ := hs
      exact ⟨⟨v, es', hm.row hg (fun r e => (hr r e).2)⟩, h2.grown hg (fun r e => (hr r e).2), own_low h3 (Nat.le_refl _) (by omega) hg hr⟩)
    (fun c X X' row hs hg hr => hs)
    ⟨⟨(none, 0, 0), [], HM0.out⟩, KeepO.refl _ _, V8⟩
    (fun i a' X => ∃ B, a' = { tmps := #[.agg #[.int .i64 lim, .slice m1 m2 m3, .slice ra n rc], .func (.func fn) #[] caps, .pointer (some ⟨w.heap.size, 0, none⟩), .pointer (some ⟨w.heap.size + 1, 0, none⟩), .slice none 0 0, .pointer (some ⟨w.heap.size + 1 + 1, 0, none⟩), .pointer (some ⟨B, 0, none⟩), .agg #[.int .i64 lim, .slice m1 m2 m3, .slice ra n rc], .func (.func 80) #[] #[.pointer (some ⟨w.heap.size + 1 + 1 + 1, 0, none⟩)], (E.getD i default).val, undef, undef, undef, undef, undef, undef, undef, undef, undef, undef, undef], defers := [] } ∧ X.cell? ⟨B, 0, none⟩ = some (.string (E.getD i default).key) ∧ X.cell? ⟨B, 1, none⟩ = some (.int .i64 (E.getD i default).time) ∧ X.cell? ⟨B, 2, none⟩ = some (.int .i64 (E.getD i default).seq) ∧ X.cell? ⟨B, 3, none⟩ = some (hdV (E.getD i default).row) ∧ X.cell? ⟨B, 4, none⟩ = some (.bool (E.getD i default).met))
    (fun i a' u X X' row hs hg hr => by
      obtain ⟨B, h1, h2, h3, h4, h5, h6⟩ := hs
      exact ⟨B, h1, cell_kept h2 hg (fun r e => (hr r e).2), cell_kept h3 hg (fun r e => (hr r e).2), cell_kept h4 hg (fun r e => (hr r e).2), cell_kept h5 hg (fun r e => (hr r e).2), cell_kept h6 hg (fun r e => (hr r e).2)⟩) ?assign ?body ?done ?stop
  case assign =>
    intro l' k x X K hx hi hK
    obtain ⟨hk, hxe⟩ := List.getElem?_eq_some_iff.1 hx
    rw [List.length_map] at hk
    rw [List.getElem_map] at hxe
    subst hxe
    have hd : E.getD k default = E[k] := by rw [List.getD_eq_getElem?_getD, List.getElem?_eq_getElem hk]; rfl
    have hK2 := hK
    rw [hd] at hK2
    clear hK hd hx
    obtain ⟨⟨ek, et, es, ⟨r1, r2, r3⟩, em⟩, hz⟩ : ∃ z, E[k] = z := ⟨_, rfl⟩
    rw [hz] at hK2 ⊢
    unfold EM.val hdV at hK2 ⊢
    dsimp only at hK2 ⊢
    obtain ⟨⟨v, es', hm⟩, j2, j4⟩ := hi
    gi_wp2
    exact hK2 _ _ ((KeepsOthers.alloc _ _).from _) (KeepO.alloc _ _) ⟨⟨v, es', hm.below ((Below.refl _ _).alloc (Nat.le_refl _) _)⟩, j2.trans (KeepO.alloc _ _), j4.alloc j4.size _⟩ ⟨X.heap.size, rfl, by go_simp, by go_simp, by go_simp, by go_simp, by go_simp⟩
  case body =>
    intro l' i x a' X hx hl' hrec hIi hax
    obtain ⟨⟨⟨v1, v2, v3⟩, es', hm⟩, j2, j4⟩ := hIi
    obtain ⟨B, hax, b0, b1, b2, b3, b4⟩ := hax
    subst hax
    obtain ⟨hi, _⟩ := List.getElem?_eq_some_iff.1 hx
    rw [List.length_map] at hi
    have hEL := HER.out.1
    have hil : i < L.length := by omega
    have her := HER.out.2 i hil
    have hmem : L.getD i default ∈ L := mem_getD hil
    have KK : Hid (∀ w1, Below X.heap.size X w1 → Calls Try.prog fn (#[(E.getD i default).val] ++ caps) w1 fun r w' => r = .returned (.bool (P (L.getD i default))) ∧ Below w1.heap.size w1 w') := fun w1 hb => HH.out _ _ w1 (her.below (j4.trans (hb.mono j4.size))) hmem (j4.trans (hb.mono j4.size))
    have KF : Hid (∀ w1, Below X.heap.size X w1 → Calls Try.prog 36 #[(E.getD i default).val] w1 fun r w' => (∃ ad c, r = .returned ((E.getD i default).to (ad, (L.getD i default).row.length, c)).val ∧ ownV w' w1.heap.size (.slice ad (L.getD i default).row.length c) (L.getD i default).row) ∧ Below w1.heap.size w1 w') := fun w1 hb => fresh_any _ _ w1 (her.below (j4.trans (hb.mono j4.size))) (HRO.out.1 _ hmem)
    have HF : Hid ((L.take (i + 1)).filter P = (L.take i).filter P ++ (if P (L.getD i default) = true then [L.getD i default] else [])) := filter_succ hil
    have HER2 : Hid (ER w (E.getD i default) (L.getD i default)) := her
    have HM : Hid (Mk X w.heap.size (w.heap.size + 1 + 1) (hdV (v1, v2, v3)) es' ((L.take i).filter P)) := hm
    have hel : es'.length ≤ 100000 := by
      have h1 := hm.oe.len
      have h2 := List.length_filter_le P (L.take i)
      have h3 := HRO.out.2
      rw [List.length_take] at h2
      omega
    have hv2 : v2 = es'.length := by
      obtain ⟨ad, cp, hf⟩ := hm.oe.form
      unfold hdV at hf
      injection hf with _ e2 _
    obtain ⟨yy, hyy⟩ : ∃ z, L.getD i default = z := ⟨_, rfl⟩
    rw [hyy] at KK KF HF HER2
    obtain ⟨⟨ek, et, es1, ⟨r1, r2, r3⟩, em⟩, hz⟩ : ∃ z, E.getD i default = z := ⟨_, rfl⟩
    rw [hz] at KK KF b0 b1 b2 b3 b4 HER2 ⊢
    unfold EM.val EM.to hdV at KF
    unfold EM.val hdV at KK
    unfold hdV at b3
    dsimp only at KK KF b0 b1 b2 b3 b4
    have c0 := j2.cell N1 V0
    have cL : X.cell? ⟨w.heap.size + 1 + 1, 0, none⟩ = some (.slice v1 v2 v3) := hm.c
    have lL := tyAt_lt hm.ty
    have lB : B < X.heap.size := World.block_lt_of_cell? _ _ b0
    have hmx : Try.prog.follows .mixedOrders = true := by kernel_rfl
    have HJ : Hid (KeepO (madeO w.heap.size (w.heap.size + 1 + 1)) V X) := j2
    clear hz hyy hx hm her hmem hEL j2
    obtain ⟨rl, hrl⟩ : ∃ z, yy.row.length = z := ⟨_, rfl⟩
    have HRL : Hid (yy.row.length = rl) := hrl
    rw [hrl] at KF
    clear hrl
    cases hp : P yy with
    | false =>
      rw [hp] at KK HF
      gi_wp2_with (refine ⟨trivial, rfl, ?_⟩; refine (CallsIn.inRound l' (callsIn_wide.2 (KK.out _ (Below.refl _ _)))).mono ?_; rintro e w2 ⟨rfl, hb2⟩)
      exact ⟨kf_below hb2, fun k ob h1 _ _ => (hb2.block k (Array.getElem?_eq_some_iff.1 h1).1).trans h1, ⟨(v1, v2, v3), es', by rw [HF.out]; simpa using HM.out.below hb2⟩, HJ.out.trans (fun k ob h1 _ _ => (hb2.block k (Array.getElem?_eq_some_iff.1 h1).1).trans h1), j4.trans (hb2.mono j4.size)⟩
    | true =>
      rw [hp] at KK HF
      subst hv2
      obtain ⟨en, hen⟩ : ∃ z, es'.length = z := ⟨_, rfl⟩
      have HEN : Hid (es'.length = en) := hen
      rw [hen] at hel cL
      clear hen
      gi_wp2_with (refine ⟨trivial, rfl, ?_⟩; refine (CallsIn.inRound l' (callsIn_wide.2 (KK.out _ (Below.refl _ _)))).mono ?_; rintro e w2 ⟨rfl, hb2⟩; have d0 := cell_later hb2 b0; have d1 := cell_later hb2 b1; have d2 := cell_later hb2 b2; have d3 := cell_later hb2 b3; have d4 := cell_later hb2 b4; have dL := cell_later hb2 cL)
      have hbX2 : Below X.heap.size X w2 := hb2
      have HAP : Hid (∀ w3 ad3 c3, Below X.heap.size X w3 → ∃ g c4 w4, (Builtin.append_ #[22, 22] 22 #[.slice v1 en v3, .slice (some ⟨w3.heap.size, 0, none⟩) 1 1]).run Try.prog (w3.alloc (.cells #[.string ek, .int .i64 et, .int .i64 es1, .slice ad3 rl c3, .bool em] 28)) = .ok (.slice (some ⟨g, 0, none⟩) (en + 1) c4) w4 ∧
          w4.ownsRow w.heap.size 28 5 (.slice (some ⟨g, 0, none⟩) (en + 1) c4) (en + 1) (entCells es' ++ [.string ek, .int .i64 et, .int .i64 es1, .slice ad3 rl c3, .bool em]) ∧ (w3.alloc (.cells #[.string ek, .int .i64 et, .int .i64 es1, .slice ad3 rl c3, .bool em] 28)).grownBy w4 (Value.slice v1 en v3).ownBlock) := fun w3 ad3 c3 hb => by
        have ho := own_below HM.out.oe.own hb
        unfold hdV at ho
        rw [HEN.out] at ho
        have hsz := Nat.le_trans j4.size hb.size
        obtain ⟨v4, w4, q1, q2, q3, _⟩ := run_append_own (P := Try.prog) (w3.alloc (.cells #[.string ek, .int .i64 et, .int .i64 es1, .slice ad3 rl c3, .bool em] 28)) w.heap.size 22 22 28 i0 (.agg #[.string ⟨#[]⟩, .int .i64 0, .int .i64 0, .slice none 0 0, .bool false]) 5 64 Try.underlying22 HI.out.1 HI.out.2.1 HI.out.2.2.1 HI.out.2.2.2 rfl (by decide) _ en _ (World.ownsRow.alloc ho _) ⟨w3.heap.size, 0, none⟩ 1 1 [.string ek, .int .i64 et, .int .i64 es1, .slice ad3 rl c3, .bool em] rfl (cell_five_new _ _ _ _ _ _ _) (by intro u hu; simp at hu; rcases hu with rfl | rfl | rfl | rfl | rfl <;> rfl) (by unfold maxLen; omega) (by omega) (by simp; omega)
        obtain ⟨g, c4, hv4⟩ := own_some q2
        subst hv4
        exact ⟨g, c4, w4, q1, q2, q3⟩
      refine wpIn_region_any (by assumption) ?_
      try (change wpAnyIn _ _ _ _ _ _ _ _ _ (World.drew _))
      refine wpAnyIn_ready (rs := [0, 1]) (by kernel_rfl) (by simp) ?_
      refine AllReadyIn.cons rfl (fun K hK => ?_) ?_
      · skip
        go_simp
        refine hK _ _ ?_
        clear hK K
        refine wpAnyIn_ready (rs := [1]) (by kernel_rfl) (by simp) ?_
        refine AllReadyIn.cons rfl (fun K hK => ?_) ?_
        · skip
          go_simp
          refine hK _ _ ?_
          clear hK K
          refine wpAnyIn_ready (rs := [2]) (by kernel_rfl) (by simp) ?_
          refine AllReadyIn.cons rfl (fun K hK => ?_) ?_
          · skip
            go_simp
            gi_wp2_with (refine ⟨trivial, rfl, ?_⟩; gi_at_call 36; refine (CallsIn.inRound l' (callsIn_wide.2 (KF.out _ hbX2.drew))).mono ?_; rintro e w3 ⟨⟨ad3, c3, rfl, hov⟩, hb3⟩; have hbX3 : Below X.heap.size X w3 := hbX2.drew.trans (hb3.mono hbX2.size); have fL := cell_later hbX3 cL; have lL3 := Nat.lt_of_lt_of_le lL hbX3.size; obtain ⟨g4, c4, w4, q1, q2, q3⟩ := HAP.out w3 ad3 c3 hbX3; have hmid := Mk_mid HM.out hbX3 (by unfold hdV; dsimp only; rw [HEN.out]; exact q3); unfold hdV at hmid; dsimp only at hmid; rw [HEN.out] at hmid; obtain ⟨m4, mf⟩ := hmid)
            try (refine hK _ _ ?_; clear hK K)
            refine wpAnyIn_ready (rs := [3]) (by kernel_rfl) (by simp) ?_
            refine AllReadyIn.cons rfl (fun K hK => ?_) ?_
            · skip
              go_simp
              refine hK _ _ ?_
              clear hK K
              refine wpAnyIn_ready (rs := [4]) (by kernel_rfl) (by simp) ?_
              refine AllReadyIn.cons rfl (fun K hK => ?_) ?_
              · skip
                refine step_append_in (.tmp 13) (.tmp 16) 22 rfl rfl rfl rfl q1 ?_
                refine hK _ _ ?_
                clear hK K
                refine wpAnyIn_ready (rs := [5]) (by kernel_rfl) (by simp) ?_
                refine AllReadyIn.cons rfl (fun K hK => ?_) ?_
                · skip
                  go_simp
                  refine hK _ _ ?_
                  clear hK K
                  refine wpAnyIn_done (by kernel_rfl) ?_ _
                  gi_wp2
                  have HSN := Mk_snoc (e := ⟨ek, et, es1, (ad3, rl, c3), em⟩) (y := yy) (g := g4) (c4 := c4) HM.out hbX3 ⟨HER2.out.key, HER2.out.time, HER2.out.seq, HER2.out.met, HRL.out.symm, by unfold hdV; dsimp only; exact own_mono hov (by have := hbX2.size; have := j4.size; show w.heap.size ≤ w2.heap.size; omega)⟩ (by omega) (by rw [HEN.out]; exact q2) (by unfold hdV; dsimp only; rw [HEN.out]; exact q3) V.heap.size
                  rw [HEN.out] at HSN
                  obtain ⟨s1, s2, s3, s4⟩ := HSN
                  exact ⟨s4, s3, ⟨(some ⟨g4, 0, none⟩, en + 1, c4), _, by rw [HF.out, if_pos (by trivial)]; exact s1⟩, HJ.out.trans s3, j4.trans s2⟩
                exact AllReadyIn.nil
              exact AllReadyIn.nil
            exact AllReadyIn.nil
          exact AllReadyIn.nil
        exact AllReadyIn.nil
      refine AllReadyIn.cons rfl (fun K hK => ?_) ?_
      · skip
        go_simp
        refine hK _ _ ?_
        clear hK K
        refine wpAnyIn_ready (rs := [0, 2]) (by kernel_rfl) (by simp) ?_
        refine AllReadyIn.cons rfl (fun K hK => ?_) ?_
        · skip
          go_simp
          refine hK _ _ ?_
          clear hK K
          refine wpAnyIn_ready (rs := [2]) (by kernel_rfl) (by simp) ?_
          refine AllReadyIn.cons rfl (fun K hK => ?_) ?_
          · skip
            go_simp
            gi_wp2_with (refine ⟨trivial, rfl, ?_⟩; gi_at_call 36; refine (CallsIn.inRound l' (callsIn_wide.2 (KF.out _ hbX2.drew))).mono ?_; rintro e w3 ⟨⟨ad3, c3, rfl, hov⟩, hb3⟩; have hbX3 : Below X.heap.size X w3 := hbX2.drew.trans (hb3.mono hbX2.size); have fL := cell_later hbX3 cL; have lL3 := Nat.lt_of_lt_of_le lL hbX3.size; obtain ⟨g4, c4, w4, q1, q2, q3⟩ := HAP.out w3 ad3 c3 hbX3; have hmid := Mk_mid HM.out hbX3 (by unfold hdV; dsimp only; rw [HEN.out]; exact q3); unfold hdV at hmid; dsimp only at hmid; rw [HEN.out] at hmid; obtain ⟨m4, mf⟩ := hmid)
            try (refine hK _ _ ?_; clear hK K)
            refine wpAnyIn_ready (rs := [3]) (by kernel_rfl) (by simp) ?_
            refine AllReadyIn.cons rfl (fun K hK => ?_) ?_
            · skip
              go_simp
              refine hK _ _ ?_
              clear hK K
              refine wpAnyIn_ready (rs := [4]) (by kernel_rfl) (by simp) ?_
              refine AllReadyIn.cons rfl (fun K hK => ?_) ?_
              · skip
                refine step_append_in (.tmp 13) (.tmp 16) 22 rfl rfl rfl rfl q1 ?_
                refine hK _ _ ?_
                clear hK K
                refine wpAnyIn_ready (rs := [5]) (by kernel_rfl) (by simp) ?_
                refine AllReadyIn.cons rfl (fun K hK => ?_) ?_
                · skip
                  go_simp
                  refine hK _ _ ?_
                  clear hK K
                  refine wpAnyIn_done (by kernel_rfl) ?_ _
                  gi_wp2
                  have HSN := Mk_snoc (e := ⟨ek, et, es1, (ad3, rl, c3), em⟩) (y := yy) (g := g4) (c4 := c4) HM.out hbX3 ⟨HER2.out.key, HER2.out.time, HER2.out.seq, HER2.out.met, HRL.out.symm, by unfold hdV; dsimp only; exact own_mono hov (by have := hbX2.size; have := j4.size; show w.heap.size ≤ w2.heap.size; omega)⟩ (by omega) (by rw [HEN.out]; exact q2) (by unfold hdV; dsimp only; rw [HEN.out]; exact q3) V.heap.size
                  rw [HEN.out] at HSN
                  obtain ⟨s1, s2, s3, s4⟩ := HSN
                  exact ⟨s4, s3, ⟨(some ⟨g4, 0, none⟩, en + 1, c4), _, by rw [HF.out, if_pos (by trivial)]; exact s1⟩, HJ.out.trans s3, j4.trans s2⟩
                exact AllReadyIn.nil
              exact AllReadyIn.nil
            exact AllReadyIn.nil
          exact AllReadyIn.nil
        refine AllReadyIn.cons rfl (fun K hK => ?_) ?_
        · skip
          go_simp
          gi_wp2_with (refine ⟨trivial, rfl, ?_⟩; gi_at_call 36; refine (CallsIn.inRound l' (callsIn_wide.2 (KF.out _ hbX2.drew))).mono ?_; rintro e w3 ⟨⟨ad3, c3, rfl, hov⟩, hb3⟩; have hbX3 : Below X.heap.size X w3 := hbX2.drew.trans (hb3.mono hbX2.size); have fL := cell_later hbX3 cL; have lL3 := Nat.lt_of_lt_of_le lL hbX3.size; obtain ⟨g4, c4, w4, q1, q2, q3⟩ := HAP.out w3 ad3 c3 hbX3; have hmid := Mk_mid HM.out hbX3 (by unfold hdV; dsimp only; rw [HEN.out]; exact q3); unfold hdV at hmid; dsimp only at hmid; rw [HEN.out] at hmid; obtain ⟨m4, mf⟩ := hmid)
          try (refine hK _ _ ?_; clear hK K)
          refine wpAnyIn_ready (rs := [0, 3]) (by kernel_rfl) (by simp) ?_
          refine AllReadyIn.cons rfl (fun K hK => ?_) ?_
          · skip
            go_simp
            refine hK _ _ ?_
            clear hK K
            refine wpAnyIn_ready (rs := [3]) (by kernel_rfl) (by simp) ?_
            refine AllReadyIn.cons rfl (fun K hK => ?_) ?_
            · skip
              go_simp
              refine hK _ _ ?_
              clear hK K
              refine wpAnyIn_ready (rs := [4]) (by kernel_rfl) (by simp) ?_
              refine AllReadyIn.cons rfl (fun K hK => ?_) ?_
              · skip
                refine step_append_in (.tmp 13) (.tmp 16) 22 rfl rfl rfl rfl q1 ?_
                refine hK _ _ ?_
                clear hK K
                refine wpAnyIn_ready (rs := [5]) (by kernel_rfl) (by simp) ?_
                refine AllReadyIn.cons rfl (fun K hK => ?_) ?_
                · skip
                  go_simp
                  refine hK _ _ ?_
                  clear hK K
                  refine wpAnyIn_done (by kernel_rfl) ?_ _
                  gi_wp2
                  have HSN := Mk_snoc (e := ⟨ek, et, es1, (ad3, rl, c3), em⟩) (y := yy) (g := g4) (c4 := c4) HM.out hbX3 ⟨HER2.out.key, HER2.out.time, HER2.out.seq, HER2.out.met, HRL.out.symm, by unfold hdV; dsimp only; exact own_mono hov (by have := hbX2.size; have := j4.size; show w.heap.size ≤ w2.heap.size; omega)⟩ (by omega) (by rw [HEN.out]; exact q2) (by unfold hdV; dsimp only; rw [HEN.out]; exact q3) V.heap.size
                  rw [HEN.out] at HSN
                  obtain ⟨s1, s2, s3, s4⟩ := HSN
                  exact ⟨s4, s3, ⟨(some ⟨g4, 0, none⟩, en + 1, c4), _, by rw [HF.out, if_pos (by trivial)]; exact s1⟩, HJ.out.trans s3, j4.trans s2⟩
                exact AllReadyIn.nil
              exact AllReadyIn.nil
            exact AllReadyIn.nil
          refine AllReadyIn.cons rfl (fun K hK => ?_) ?_
          · skip
            go_simp
            refine hK _ _ ?_
            clear hK K
            refine wpAnyIn_ready (rs := [0]) (by kernel_rfl) (by simp) ?_
            refine AllReadyIn.cons rfl (fun K hK => ?_) ?_
            · skip
              go_simp
              refine hK _ _ ?_
              clear hK K
              refine wpAnyIn_ready (rs := [4]) (by kernel_rfl) (by simp) ?_
              refine AllReadyIn.cons rfl (fun K hK => ?_) ?_
              · skip
                refine step_append_in (.tmp 13) (.tmp 16) 22 rfl rfl rfl rfl q1 ?_
                refine hK _ _ ?_
                clear hK K
                refine wpAnyIn_ready (rs := [5]) (by kernel_rfl) (by simp) ?_
                refine AllReadyIn.cons rfl (fun K hK => ?_) ?_
                · skip
                  go_simp
                  refine hK _ _ ?_
                  clear hK K
                  refine wpAnyIn_done (by kernel_rfl) ?_ _
                  gi_wp2
                  have HSN := Mk_snoc (e := ⟨ek, et, es1, (ad3, rl, c3), em⟩) (y := yy) (g := g4) (c4 := c4) HM.out hbX3 ⟨HER2.out.key, HER2.out.time, HER2.out.seq, HER2.out.met, HRL.out.symm, by unfold hdV; dsimp only; exact own_mono hov (by have := hbX2.size; have := j4.size; show w.heap.size ≤ w2.heap.size; omega)⟩ (by omega) (by rw [HEN.out]; exact q2) (by unfold hdV; dsimp only; rw [HEN.out]; exact q3) V.heap.size
                  rw [HEN.out] at HSN
                  obtain ⟨s1, s2, s3, s4⟩ := HSN
                  exact ⟨s4, s3, ⟨(some ⟨g4, 0, none⟩, en + 1, c4), _, by rw [HF.out, if_pos (by trivial)]; exact s1⟩, HJ.out.trans s3, j4.trans s2⟩
                exact AllReadyIn.nil
              exact AllReadyIn.nil
            exact AllReadyIn.nil
          exact AllReadyIn.nil
        exact AllReadyIn.nil
      exact AllReadyIn.nil
  case done =>
    rintro D X hD ⟨⟨⟨v1, v2, v3⟩, es', hm⟩, j2, j4⟩ hK
    rw [List.length_map, HER.out.1, List.take_length] at hm
    have hel : es'.length ≤ 1000000 := by
      have h1 := hm.oe.len
      have h2 := List.length_filter_le P L
      have h3 := HRO.out.2
      omega
    have cL : X.cell? ⟨w.heap.size + 1 + 1, 0, none⟩ = some (.slice v1 v2 v3) := hm.c
    have lL := tyAt_lt hm.ty
    have lD : D < X.heap.size := (Array.getElem?_eq_some_iff.1 hK).1
    have HOE : Hid (OE X w.heap.size (.slice v1 v2 v3) es' (L.filter P)) := hm.oe
    have KS : Hid (Calls Try.prog 37 #[.slice v1 v2 v3, .func (.func 38) #[] #[]] X fun e w' => e = .returned (.tuple #[]) ∧ ∃ es2 l2, l2.Perm (L.filter P) ∧ (∀ i j, i < j → j < l2.length → ¬ ltP (l2.getD j default) (l2.getD i default)) ∧ OE w' w.heap.size (.slice v1 v2 v3) es2 l2 ∧ Below w.heap.size X w' ∧ (∀ b, b < X.heap.size → (Value.slice v1 v2 v3).ownBlock ≠ some b → w'.heap[b]? = X.heap[b]?)) := sort_any w.heap.size (.slice v1 v2 v3) es' (L.filter P) X hm.oe hel
    have HNL : Hid ((Value.slice v1 v2 v3).ownBlock ≠ some (w.heap.size + 1 + 1)) := fun e => tyAt_apart (own_ty hm.oe.own e) hm.ty (by decide) rfl
    have HND : Hid ((Value.slice v1 v2 v3).ownBlock ≠ some D) := fun e => by
      obtain ⟨cc, ff, k⟩ := own_ty hm.oe.own e
      rw [hK] at k; cases k
    clear hm j2
    gi_wp2_with (refine ⟨trivial, rfl, ?_⟩; gi_at_call 37; refine (callsIn_wide.2 KS.out).mono ?_; rintro e w2 ⟨rfl, es2, l2, hp, hs, hoe, hb, hk⟩; have dL : w2.cell? ⟨w.heap.size + 1 + 1, 0, none⟩ = some (.slice v1 v2 v3) := (World.cell?_of_block (a := ⟨w.heap.size + 1 + 1, 0, none⟩) (hk _ lL HNL.out)).trans cL)
    have hK2 : w2.heap[D]? = some (.deferred (some [])) := (hk D lD HND.out).trans hK
    refine ⟨by simp, .inl ⟨_, _, rfl, run_takeDeferred hK2, ?_⟩⟩
    refine ⟨_, results_tmp rfl _ _ _, ⟨(v1, v2, v3), es2, l2, rfl, hp, hs, ?_⟩, put_low (j4.trans hb) (by omega) hK2 _⟩
    exact hoe.same (by simp) (fun g cur t hg _ => World.putObj_heap_other (fun e => by rw [e] at hg; rw [hK2] at hg; cases hg))
  case stop =>
    rintro D c X hD h hK
    exact h.elim
end Go.Proofs.Ytnfknkihiapgiaa.bf
