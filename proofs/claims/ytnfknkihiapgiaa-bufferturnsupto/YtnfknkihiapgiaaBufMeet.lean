/- Meet: the buffer in which the entry of a place is met. -/
import Derived.Test.YtnfknkihiapgiaaBufMet4
import Derived.Test.YtnfknkihiapgiaaBufMeetE
import Derived.Test.YtnfknkihiapgiaaBufOwnAt
namespace Go.Proofs.Ytnfknkihiapgiaa.bf
open Go.ChangeShapes Go.WideShapes Go.ChangeAt Go.RowKit Go.Shelf
open vl
set_option linter.unusedVariables false
set_option linter.unusedSimpArgs false
attribute [local go_sem] Oper.semAt_some
set_option maxRecDepth 100000 in
set_option maxHeartbeats 16000000 in
theorem meet_ok (b : Buf) (x : BX) (p : Plc) (w : World) (h : bufAt w b x) (hw : ∀ y ∈ entsB b, wfE y ∧ wfP (plOf y)) (hs : (entsB b).length ≤ 4611686018427387904) (he : errB b = 0) (hh : hasB (entsB b) p = true) :
    Calls Try.prog 15 #[bufV b x, .string p.1, .int .i64 p.2.1, .int .i64 p.2.2] w fun e w' => (∃ x', e = .returned (.tuple #[bufV (meetB p b) x', .int .i64 0]) ∧ OB w' w.heap.size x' (meetB p b)) ∧ Below w.heap.size w w' := by
  have KC : Hid (∀ w1, Below w.heap.size w w1 → Calls Try.prog 14 #[bufV b x] w1 fun e w' => e = .returned (.int .i64 0) ∧ Below w1.heap.size w1 w') := fun w1 hb => by
    have := check_any b x w1 (bufAt_below h hb) hw hs
    rwa [he] at this
  have KH : Hid (∀ w1, Below w.heap.size w w1 → Calls Try.prog 31 #[bufV b x, plcV p] w1 fun e w' => e = .returned (.bool (hasB (entsB b) p)) ∧ Below w1.heap.size w1 w') := fun w1 hb => has_any b x p w1 (bufAt_below h hb)
  rw [hh] at KH
  have ok := okB_of he
  have hsm := ok.small
  have KK : Hid (∀ w1, Below w.heap.size w w1 → Calls Try.prog 34 #[bufV b x, .func (.func 35) #[] #[]] w1 fun r w' => (∃ x', r = .returned (bufV b x') ∧ OB w' w1.heap.size x' b) ∧ Below w1.heap.size w1 w') := fun w1 hb => by
    have k := kept_any 35 (enters_of Try.func35 (by kernel_rfl) rfl) #[] (fun _ => true) b x w1 (bufAt_below h hb) hsm.1 hsm.2.1 hsm.2.2 (fun e y w2 _ _ _ => by rw [Array.append_empty]; exact always_any e w2)
    rw [keptB_true ok] at k
    exact k
  have HSL : Hid (∀ l ∈ partsB b, l.length ≤ 9223372036854775807) := fun l hl => by have := hsm.1 l hl; omega
  clear h hw hs he hsm hh ok
  obtain ⟨ra, rc, ⟨⟨m1, m2, m3⟩, ml⟩, rs⟩ := x
  obtain ⟨PS, hPS⟩ : ∃ z, partsB b = z := ⟨_, rfl⟩
  obtain ⟨lim, hlim⟩ : ∃ z, b.lim = z := ⟨_, rfl⟩
  have hbv : ∀ ra rc m1 m2 m3 ml rs, bufV b ⟨ra, rc, ((m1, m2, m3), ml), rs⟩ = .agg #[.int .i64 lim, .slice m1 m2 m3, .slice ra rs.length rc] := fun _ _ _ _ _ _ _ => by rw [← hlim]; rfl
  rw [hbv] at KC KK KH ⊢
  have HBV : Hid (∀ ra rc m1 m2 m3 ml rs, bufV b ⟨ra, rc, ((m1, m2, m3), ml), rs⟩ = .agg #[.int .i64 lim, .slice m1 m2 m3, .slice ra rs.length rc]) := hbv
  clear hbv
  obtain ⟨pk, pt, ps⟩ := p
  unfold plcV at KH
  dsimp only at KH ⊢
  obtain ⟨n, hn⟩ : ∃ n, rs.length = n := ⟨_, rfl⟩
  rw [hn] at KC KK KH ⊢
  clear hn
  have hb0 : Below w.heap.size w ((w.alloc (.cells #[.int .i64 lim, .slice m1 m2 m3, .slice ra n rc] 25)).alloc (.cells #[.int .i64 0, .slice none 0 0, .slice none 0 0] 25)) := by
    repeat (first | exact Below.refl _ _ | (refine Below.alloc ?_ (by simp <;> omega) _))
  have NBV := nb_alloc (w.alloc (.cells #[.int .i64 lim, .slice m1 m2 m3, .slice ra n rc] 25))
  rw [World.size_alloc] at NBV
  have HNB : Hid (nbAt ((w.alloc (.cells #[.int .i64 lim, .slice m1 m2 m3, .slice ra n rc] 25)).alloc (.cells #[.int .i64 0, .slice none 0 0, .slice none 0 0] 25)) (w.heap.size + 1)) := NBV
  clear NBV
  refine (callsIn_wide (n := 0)).1 ?_
  refine callsIn_of_wp_marks Try.func15 rfl trivial ?_ rfl
  simp only [Try.ntmps15, List.size_toArray, List.length_cons, List.length_nil, Nat.reduceAdd, Nat.reduceSub, Array.replicate_succ, Array.replicate_zero, List.push_toArray, List.append_toArray, List.nil_append, List.cons_append]
  gi_wp2_with (refine ⟨trivial, rfl, ?_⟩; first
    | (gi_at_call 14; refine (callsIn_wide.2 (KC.out _ hb0)).mono ?_; rintro e w2 ⟨rfl, hb2⟩; have hbw : Below w.heap.size w w2 := hb0.trans (hb2.mono hb0.size); have nb2 := nb_below hb2 HNB.out; have k0 : w2.cell? ⟨w.heap.size, 0, none⟩ = some (.int .i64 lim) := cell_later hb2 (by go_simp); have k1 : w2.cell? ⟨w.heap.size, 1, none⟩ = some (.slice m1 m2 m3) := cell_later hb2 (by go_simp); have k2 : w2.cell? ⟨w.heap.size, 2, none⟩ = some (.slice ra n rc) := cell_later hb2 (by go_simp); have lw : w.heap.size < w2.heap.size := World.block_lt_of_cell? _ _ k0)
    | (gi_at_call 31; refine (callsIn_wide.2 (KH.out _ (hbw.alloc hbw.size _))).mono ?_; rintro e w3 ⟨rfl, hb3⟩; have nb3 := nb_below hb3 (nb_below ((Below.refl _ _).alloc (Nat.le_refl _) _) nb2); have hbx : Below w.heap.size w w3 := (hbw.alloc hbw.size _).trans (hb3.mono (hbw.alloc hbw.size _).size); have l0 : w3.cell? ⟨w.heap.size, 0, none⟩ = some (.int .i64 lim) := cell_later hb3 (by go_simp); have l1 : w3.cell? ⟨w.heap.size, 1, none⟩ = some (.slice m1 m2 m3) := cell_later hb3 (by go_simp); have l2 : w3.cell? ⟨w.heap.size, 2, none⟩ = some (.slice ra n rc) := cell_later hb3 (by go_simp); have p0 : w3.cell? ⟨w2.heap.size, 0, none⟩ = some (.string pk) := cell_later hb3 (by go_simp); have p1 : w3.cell? ⟨w2.heap.size, 1, none⟩ = some (.int .i64 pt) := cell_later hb3 (by go_simp); have p2 : w3.cell? ⟨w2.heap.size, 2, none⟩ = some (.int .i64 ps) := cell_later hb3 (by go_simp); have HPT : Hid (tyAt w3 w2.heap.size 58) := tyAt_below ⟨_, _, World.alloc_heap_new w2 _⟩ hb3)
    | (gi_at_call 34; refine (callsIn_wide.2 (KK.out _ hbx)).mono ?_; rintro e w4 ⟨⟨⟨ra', rc', ⟨⟨a1, a2, a3⟩, ml'⟩, rs'⟩, rfl, hob⟩, hb4⟩; rw [HBV.out]; have HNB3 : Hid (nbAt w4 (w.heap.size + 1)) := nb_below hb4 nb3; have HOB : Hid (OB w4 w3.heap.size ⟨ra', rc', ((a1, a2, a3), ml'), rs'⟩ b) := hob; clear hob; obtain ⟨n', hn'⟩ : ∃ n, rs'.length = n := ⟨_, rfl⟩; have HN : Hid (rs'.length = n') := hn'; rw [hn']; clear hn'; have P0 := cell_later hb4 p0; have P1 := cell_later hb4 p1; have P2 := cell_later hb4 p2; have HPT4 : Hid (tyAt w4 w2.heap.size 58) := tyAt_below HPT.out hb4; have hb5 : Below w.heap.size w w4 := hbx.trans (hb4.mono hbx.size); have lw4 : w2.heap.size < w4.heap.size := World.block_lt_of_cell? _ _ P0)
    | (gi_at_call 48; refine (callsIn_wide.2 (parts_any _ _ _ rfl rfl rfl _)).mono ?_; rintro e w' ⟨rfl, rfl⟩))
  have V0 : ((w4.alloc (.cells #[.int .i64 lim, .slice a1 a2 a3, .slice ra' n' rc'] 25)).alloc (.cells #[.int .i64 lim, .slice a1 a2 a3, .slice ra' n' rc'] 25)).cell? ⟨w4.heap.size, 0, none⟩ = some (.int .i64 lim) := by go_simp
  have V1 : ((w4.alloc (.cells #[.int .i64 lim, .slice a1 a2 a3, .slice ra' n' rc'] 25)).alloc (.cells #[.int .i64 lim, .slice a1 a2 a3, .slice ra' n' rc'] 25)).cell? ⟨w4.heap.size, 1, none⟩ = some (.slice a1 a2 a3) := by go_simp
  have V2 : ((w4.alloc (.cells #[.int .i64 lim, .slice a1 a2 a3, .slice ra' n' rc'] 25)).alloc (.cells #[.int .i64 lim, .slice a1 a2 a3, .slice ra' n' rc'] 25)).cell? ⟨w4.heap.size, 2, none⟩ = some (.slice ra' n' rc') := by go_simp
  have V3 : ((w4.alloc (.cells #[.int .i64 lim, .slice a1 a2 a3, .slice ra' n' rc'] 25)).alloc (.cells #[.int .i64 lim, .slice a1 a2 a3, .slice ra' n' rc'] 25)).cell? ⟨w4.heap.size + 1, 1, none⟩ = some (.slice a1 a2 a3) := by go_simp
  have V4 : ((w4.alloc (.cells #[.int .i64 lim, .slice a1 a2 a3, .slice ra' n' rc'] 25)).alloc (.cells #[.int .i64 lim, .slice a1 a2 a3, .slice ra' n' rc'] 25)).cell? ⟨w4.heap.size + 1, 2, none⟩ = some (.slice ra' n' rc') := by go_simp
  have V5 : ((w4.alloc (.cells #[.int .i64 lim, .slice a1 a2 a3, .slice ra' n' rc'] 25)).alloc (.cells #[.int .i64 lim, .slice a1 a2 a3, .slice ra' n' rc'] 25)).cell? ⟨w2.heap.size, 0, none⟩ = some (.string pk) := by go_simp
  have V6 : ((w4.alloc (.cells #[.int .i64 lim, .slice a1 a2 a3, .slice ra' n' rc'] 25)).alloc (.cells #[.int .i64 lim, .slice a1 a2 a3, .slice ra' n' rc'] 25)).cell? ⟨w2.heap.size, 1, none⟩ = some (.int .i64 pt) := by go_simp
  have V7 : ((w4.alloc (.cells #[.int .i64 lim, .slice a1 a2 a3, .slice ra' n' rc'] 25)).alloc (.cells #[.int .i64 lim, .slice a1 a2 a3, .slice ra' n' rc'] 25)).cell? ⟨w2.heap.size, 2, none⟩ = some (.int .i64 ps) := by go_simp
  have V8 : Below w4.heap.size w4 ((w4.alloc (.cells #[.int .i64 lim, .slice a1 a2 a3, .slice ra' n' rc'] 25)).alloc (.cells #[.int .i64 lim, .slice a1 a2 a3, .slice ra' n' rc'] 25)) := by
    repeat (first | exact Below.refl _ _ | (refine Below.alloc ?_ (by simp <;> omega) _))
  have T1 : tyAt ((w4.alloc (.cells #[.int .i64 lim, .slice a1 a2 a3, .slice ra' n' rc'] 25)).alloc (.cells #[.int .i64 lim, .slice a1 a2 a3, .slice ra' n' rc'] 25)) w4.heap.size 25 := tyAt_below ⟨_, _, World.alloc_heap_new w4 _⟩ ((Below.refl _ _).alloc (Nat.le_refl _) _)
  have T2 : tyAt ((w4.alloc (.cells #[.int .i64 lim, .slice a1 a2 a3, .slice ra' n' rc'] 25)).alloc (.cells #[.int .i64 lim, .slice a1 a2 a3, .slice ra' n' rc'] 25)) (w4.heap.size + 1) 25 := by
    have := World.alloc_heap_new (w4.alloc (.cells #[.int .i64 lim, .slice a1 a2 a3, .slice ra' n' rc'] 25)) (.cells #[.int .i64 lim, .slice a1 a2 a3, .slice ra' n' rc'] 25)
    rw [World.size_alloc] at this
    exact ⟨_, _, this⟩
  generalize ((w4.alloc (.cells #[.int .i64 lim, .slice a1 a2 a3, .slice ra' n' rc'] 25)).alloc (.cells #[.int .i64 lim, .slice a1 a2 a3, .slice ra' n' rc'] 25)) = V at *
  have HV8 : Hid (Below w.heap.size w V) := hb5.trans (V8.mono hb5.size)
  have HOV : Hid (OB V w3.heap.size ⟨ra', rc', ((a1, a2, a3), ml'), rs'⟩ b) := HOB.out.below V8
  have HNV : Hid (nbAt V (w.heap.size + 1)) := nb_below V8 HNB3.out
  have HT1 : Hid (names notE V w4.heap.size) := names_notE T1 (by decide)
  have HT3 : Hid (names notE V w2.heap.size) := names_notE (tyAt_below HPT4.out V8) (by decide)
  have hit := iter_parts HOB.out.at V8 (w4.heap.size + 1) notE V3 (by rw [HN.out]; exact V4) (names_notE T2 (by decide)) (fun a h0 ha => names_notE (own_ty HOV.out.hds (by dsimp only at ha ⊢; rw [ha]; rfl)) (by decide))
  have hbase : w.heap.size ≤ w3.heap.size := hbx.size
  have hps : PS.length = rs'.length + 1 := by rw [← hPS]; simp [partsB, HOV.out.rlen]
  have HST0 : Hid (MSt w V V w3.heap.size ((((a1, a2, a3), ml') :: rs').map (·.1)) (.slice ra' rs'.length rc') rs'.length (rs'.map fun q => hdV q.1) (metLs (pk, pt, ps) PS 0)) := by
    show MSt _ _ _ _ _ _ _ _ _
    rw [← hPS]; exact MSt_start HOV.out HV8.out
  obtain ⟨P, hP⟩ : ∃ z : List Part, (((a1, a2, a3), ml') :: rs') = z := ⟨_, rfl⟩
  have HPP : Hid ((((a1, a2, a3), ml') :: rs') = P) := hP
  have HPL : Hid (PS.length = P.length) := by show _ = _; rw [← hP, hps]; rfl
  have HSP : Hid (∀ i, i < PS.length → (PS.getD i []).length ≤ 9223372036854775807) := fun i hi => HSL.out _ (by rw [hPS, List.getD_eq_getElem?_getD, List.getElem?_eq_getElem hi]; exact List.getElem_mem hi)
  have HPS : Hid (partsB b = PS) := hPS
  dsimp only at hit
  rw [hP] at hit HST0
  obtain ⟨HS, hHS⟩ : ∃ z : List Hdr, P.map (·.1) = z := ⟨_, rfl⟩
  have HHS : Hid (P.map (·.1) = HS) := hHS
  obtain ⟨HV, hHV⟩ : ∃ z : Value, .slice ra' rs'.length rc' = z := ⟨_, rfl⟩
  have HHV : Hid (.slice ra' rs'.length rc' = HV) := hHV
  obtain ⟨HX, hHX⟩ : ∃ z : List Value, (rs'.map fun q => hdV q.1) = z := ⟨_, rfl⟩
  have HHX : Hid ((rs'.map fun q => hdV q.1) = HX) := hHX
  rw [hHS, hHV, hHX] at HST0
  have hHL : HS.length = P.length := by rw [← hHS, List.length_map]
  clear hPS hP hHS hHV hHX hps T1 T2 V3 V4 HNB3 HOB hb2 hb3 hb4 nb2 nb3 k0 k1 k2 l0 l1 l2 p0 p1 p2 P0 P1 P2 HNB hb0 KH KK KC HPT HPT4
  refine range_law (gf := 75) (lb := #[.pointer (some ⟨w4.heap.size + 1, 0, none⟩)]) rfl (enters_of Try.func75 (by kernel_rfl) rfl) hit (Below.refl _ _) (fun x hx => by obtain ⟨p, _, rfl⟩ := List.mem_map.1 hx; rfl) (fun h k => KeepO.trans h k) (fun W l o o' _ h ho => KeepO.put W l o o' h ho)
    (fun i X => MSt w V X w3.heap.size HS HV rs'.length HX (metLs (pk, pt, ps) PS i)) (fun c X => False)
    (fun i X X' row hs hg hr => hs.row (by have := HV8.out.size; omega) hg hr)
    (fun c X X' row hs hg hr => hs)
    HST0.out
    (fun i a' X => a' = { tmps := #[.agg #[.int .i64 lim, .slice m1 m2 m3, .slice ra n rc], .string pk, .int .i64 pt, .int .i64 ps, .pointer (some ⟨w.heap.size, 0, none⟩), undef, undef, undef, .pointer (some ⟨w.heap.size + 1, 0, none⟩), .int .i64 0, .int .i64 0, .pointer (some ⟨w2.heap.size, 0, none⟩), .pointer (some ⟨w4.heap.size, 0, none⟩), hdV (P.getD i default).1, undef, .agg #[.int .i64 lim, .slice m1 m2 m3, .slice ra n rc], .int .i64 0, .int .i64 0, .bool false, undef, undef, .string pk, .int .i64 pt, .int .i64 ps, .agg #[.string pk, .int .i64 pt, .int .i64 ps], .agg #[.int .i64 lim, .slice m1 m2 m3, .slice ra n rc], .agg #[.string pk, .int .i64 pt, .int .i64 ps], .bool true, .bool false, undef, .agg #[.int .i64 lim, .slice m1 m2 m3, .slice ra n rc], .agg #[.int .i64 lim, .slice a1 a2 a3, .slice ra' n' rc'], .agg #[.int .i64 lim, .slice a1 a2 a3, .slice ra' n' rc'], .func (.func 75) #[] #[.pointer (some ⟨w4.heap.size + 1, 0, none⟩)], hdV (P.getD i default).1, undef, undef, undef, undef, undef, undef, undef, undef, undef, undef, undef, undef, undef, undef, undef, undef, undef, undef], defers := [] })
    (fun i a' u X X' row hs hg hr => hs) ?assign ?body ?done ?stop
  case assign =>
    intro l' k x X K hx hi hK
    obtain ⟨hk, hxe⟩ := List.getElem?_eq_some_iff.1 hx
    rw [List.length_map] at hk
    rw [List.getElem_map] at hxe
    subst hxe
    have hd : P.getD k default = P[k] := by rw [List.getD_eq_getElem?_getD, List.getElem?_eq_getElem hk]; rfl
    have hK2 := fun W' h1 h2 h3 => hK _ W' h1 h2 h3 rfl
    rw [hd] at hK2
    clear hK hd hx
    obtain ⟨⟨⟨z1, z2, z3⟩, zl⟩, hz⟩ : ∃ z, P[k] = z := ⟨_, rfl⟩
    rw [hz] at hK2 ⊢
    unfold hdV at hK2 ⊢
    dsimp only at hK2 ⊢
    gi_wp2
    exact hK2 X (KeepsFrom.refl _ _) (KeepO.refl _ _) hi
  case body =>
    intro l' i x a' X hx hl' hrec hIi hax
    obtain ⟨hi, hxe⟩ := List.getElem?_eq_some_iff.1 hx
    rw [List.length_map] at hi
    have hd : P.getD i default = P[i] := by rw [List.getD_eq_getElem?_getD, List.getElem?_eq_getElem hi]; rfl
    have hHd : HS.getD i hd0 = (P[i]).1 := by rw [← HHS.out, List.getD_eq_getElem?_getD, List.getElem?_map, List.getElem?_eq_getElem hi]; rfl
    rw [hd] at hax
    subst hax
    have hlen := hIi.hlen (by rw [hHL]; exact hi) (by rw [HPL.out, hHL])
    have hsp := HSP.out i (by rw [HPL.out]; exact hi)
    clear hx hxe hd
    obtain ⟨⟨⟨z1, z2, z3⟩, zl⟩, hz⟩ : ∃ z, P[i] = z := ⟨_, rfl⟩
    rw [hz] at hHd ⊢
    rw [hHd] at hlen
    dsimp only at hHd hlen ⊢
    obtain ⟨q, hq⟩ : ∃ q, (PS.getD i []).length = q := ⟨_, rfl⟩
    have HQ : Hid ((PS.getD i []).length = q) := hq
    rw [hq] at hlen hsp
    subst hlen
    have HHD : Hid (HS.getD i hd0 = (z1, z2, z3)) := hHd
    have HI1 : Hid (i < HS.length) := by show _ < _; rw [hHL]; exact hi
    have HI2 : Hid (i < PS.length) := by show _ < _; rw [HPL.out]; exact hi
    have HI3 : Hid (PS.length = HS.length) := by show _ = _; rw [HPL.out, hHL]
    have HM0 : Hid (MSt w V X w3.heap.size HS HV rs'.length HX (metLs (pk, pt, ps) PS i)) := hIi
    unfold hdV
    dsimp only
    clear hz hq hHd hIi hi
    gi_wp2
    gi_loopw [37] (fun t wr => ∃ j : Nat, j ≤ z2 ∧ t = .int .i64 j ∧ MSt w V wr w3.heap.size HS HV rs'.length HX (metD (pk, pt, ps) PS i j) ∧ KeepO notE X wr ∧ KeepsFrom V.heap.size X wr) (fun t _ => z2 - (intOf t).toNat)
    case atStart => exact ⟨0, Nat.zero_le _, rfl, by rw [metD_zero HI2.out]; exact HM0.out, KeepO.refl _ _, KeepsFrom.refl _ _⟩
    case round =>
      obtain ⟨j, hj, rfl, hmj, hkx, hkf⟩ := hrel
      have HMJ : Hid (MSt w V wr w3.heap.size HS HV rs'.length HX (metD (pk, pt, ps) PS i j)) := hmj
      have c0 := hmj.ko.cell HT3.out V5
      have c1 := hmj.ko.cell HT3.out V6
      have c2 := hmj.ko.cell HT3.out V7
      by_cases hjl : j < z2
      · have hj2 : j < (PS.getD i []).length := by rw [HQ.out]; exact hjl
        obtain ⟨g, e, hg, x1, x2, x3, x4, x5, x6, hpl⟩ := hmj.read HI1.out HI3.out hj2
        rw [HHD.out] at hg
        injection hg with hg1 hg2
        clear hg2
        have HG : Hid ((HS.getD i hd0).1 = some ⟨g, 0, none⟩) := by show _ = _; rw [HHD.out]; exact hg1
        have HYES : Hid (∀ Y, Below wr.heap.size wr Y → (e.key, e.time, e.seq) = (pk, pt, ps) → MSt w V (Y.setCell ⟨g, j * 5 + 4, none⟩ (.bool true)) w3.heap.size HS HV rs'.length HX (metD (pk, pt, ps) PS i (j + 1)) ∧ KeepO notE Y (Y.setCell ⟨g, j * 5 + 4, none⟩ (.bool true))) := fun Y hb he => (HMJ.out.below hb).yes hbase HI1.out HI3.out hj2 HG.out (by rw [hpl]; exact he)
        have HNO : Hid (∀ Y, Below wr.heap.size wr Y → (e.key, e.time, e.seq) ≠ (pk, pt, ps) → MSt w V Y w3.heap.size HS HV rs'.length HX (metD (pk, pt, ps) PS i (j + 1))) := fun Y hb he => (HMJ.out.below hb).no hj2 (by rw [hpl]; exact he)
        have KP : Hid (∀ w1, Calls Try.prog 32 #[e.val] w1 fun r w' => r = .returned (.agg #[.string e.key, .int .i64 e.time, .int .i64 e.seq]) ∧ Below w1.heap.size w1 w') := fun w1 => placeOf_any _ w1
        have hg1' := hg1.symm
        subst hg1'
        obtain ⟨ek, et, es, ⟨r1, r2, r3⟩, em⟩ := e
        unfold EM.val hdV at KP
        unfold hdV at x4
        dsimp only at KP HYES HNO x1 x2 x3 x4 x5 x6
        have lg : g < wr.heap.size := World.block_lt_of_cell? _ _ x1
        have i1 : (0 : Int) ≤ (j : Int) := by omega
        have i2 : (j : Int) < (z2 : Int) := by omega
        have hmx : Try.prog.follows .mixedOrders = true := by kernel_rfl
        clear hpl hmj hg1 hj2 HG
        by_cases hE : (ek, et, es) = (pk, pt, ps)
        · have HE : Hid ((ek, et, es) = (pk, pt, ps)) := hE
          injection hE with e1 e23
          injection e23 with e2 e3
          subst e1 e2 e3
          gi_wp2
          gi_region_with_o (refine ⟨trivial, rfl, ?_⟩; gi_at_call 32; refine (CallsIn.inRound l' (callsIn_wide.2 (KP.out _))).mono ?_; rintro e w2' ⟨rfl, hbz⟩; have k0 := cell_later hbz c0; have k1 := cell_later hbz c1; have k2 := cell_later hbz c2; have k5 := cell_later hbz x5; have kf : w2'.frozen? ⟨g, j * 5 + 4, none⟩ = false := (by rw [hbz.frozen (p := ⟨g, j * 5 + 4, none⟩) lg]; exact x6); have hb3 : Below wr.heap.size wr w2' := (Below.refl _ _).drew.trans hbz; have ly : g < w2'.heap.size := World.block_lt_of_cell? _ _ k5)
          all_goals
            gi_wp2
            go_roundw
            case rel => exact ⟨j + 1, by omega, by go_num, (HYES.out _ hb3 HE.out).1, hkx.trans ((ko_below hb3).trans (HYES.out _ hb3 HE.out).2), hkf.trans ((kf_below hb3).trans ((KeepsOthers.setCell _ _ _).from _))⟩
            case measure => simp [intOf]; omega
        · have HNE : Hid ((ek, et, es) ≠ (pk, pt, ps)) := hE
          by_cases t1 : ek.toList = pk.toList
          · by_cases t2 : et = pt
            · have t3 : (es == ps) = false := by
                rw [beq_eq_false_iff_ne]
                intro e3
                have e1 : ek = pk := by have := bytes_beq ek pk; rw [t1] at this; simpa using this.symm
                exact hE (by rw [e1, t2, e3])
              subst t2
              gi_wp2
              gi_region_with_o (refine ⟨trivial, rfl, ?_⟩; gi_at_call 32; refine (CallsIn.inRound l' (callsIn_wide.2 (KP.out _))).mono ?_; rintro e w2' ⟨rfl, hbz⟩; have k0 := cell_later hbz c0; have k1 := cell_later hbz c1; have k2 := cell_later hbz c2; have hb3 : Below wr.heap.size wr w2' := (Below.refl _ _).drew.trans hbz)
              all_goals
                gi_wp2
                go_roundw
                case rel => exact ⟨j + 1, by omega, by go_num, HNO.out _ hb3 HNE.out, hkx.trans (ko_below hb3), hkf.trans (kf_below hb3)⟩
                case measure => simp [intOf]; omega
            · have t2' : (et == pt) = false := by simpa using t2
              gi_wp2
              gi_region_with_o (refine ⟨trivial, rfl, ?_⟩; gi_at_call 32; refine (CallsIn.inRound l' (callsIn_wide.2 (KP.out _))).mono ?_; rintro e w2' ⟨rfl, hbz⟩; have k0 := cell_later hbz c0; have k1 := cell_later hbz c1; have k2 := cell_later hbz c2; have hb3 : Below wr.heap.size wr w2' := (Below.refl _ _).drew.trans hbz)
              all_goals
                gi_wp2
                go_roundw
                case rel => exact ⟨j + 1, by omega, by go_num, HNO.out _ hb3 HNE.out, hkx.trans (ko_below hb3), hkf.trans (kf_below hb3)⟩
                case measure => simp [intOf]; omega
          · skip
            gi_wp2
            gi_region_with_o (refine ⟨trivial, rfl, ?_⟩; gi_at_call 32; refine (CallsIn.inRound l' (callsIn_wide.2 (KP.out _))).mono ?_; rintro e w2' ⟨rfl, hbz⟩; have k0 := cell_later hbz c0; have k1 := cell_later hbz c1; have k2 := cell_later hbz c2; have hb3 : Below wr.heap.size wr w2' := (Below.refl _ _).drew.trans hbz)
            all_goals
              gi_wp2
              go_roundw
              case rel => exact ⟨j + 1, by omega, by go_num, HNO.out _ hb3 HNE.out, hkx.trans (ko_below hb3), hkf.trans (kf_below hb3)⟩
              case measure => simp [intOf]; omega
      · have hje : j = z2 := by omega
        have HMN : Hid (MSt w V wr w3.heap.size HS HV rs'.length HX (metLs (pk, pt, ps) PS (i + 1))) := by
          show MSt _ _ _ _ _ _ _ _ _
          rw [← metD_end HI2.out, HQ.out, ← hje]; exact hmj
        have hjn : ¬ ((j : Int) < (z2 : Int)) := by omega
        clear hmj
        gi_wp2
        exact ⟨hkf, hkx, HMN.out⟩
  case done =>
    rintro D X hD hme hK
    have HME : Hid (MSt w V X w3.heap.size HS HV rs'.length HX (metLs (pk, pt, ps) PS P.length)) := by
      show MSt _ _ _ _ _ _ _ _ _
      rw [List.length_map] at hme; exact hme
    have HNX := nb_keep HNV.out hme.ko
    obtain ⟨n0, n1, n2, o0, o1, o2, n3⟩ := HNX
    have y0 := hme.ko.cell HT1.out V0
    have y1 := hme.ko.cell HT1.out V1
    have y2 := hme.ko.cell HT1.out V2
    have HNT : Hid (tyAt X (w.heap.size + 1) 25) := n3
    have hlt : w.heap.size + 1 < V.heap.size := tyAt_lt HNV.out.ty
    have hblx := hme.bl
    clear hme
    gi_wp2
    have hK2 : (((X.setCell ⟨w.heap.size + 1, 0, none⟩ (.int .i64 lim)).setCell ⟨w.heap.size + 1, 1, none⟩ (.slice a1 a2 a3)).setCell ⟨w.heap.size + 1, 2, none⟩ (.slice ra' n' rc')).heap[D]? = some (.deferred (some [])) := (set3_other _ _ _ _ _ _ (by omega)).trans hK
    refine ⟨by simp, .inl ⟨_, _, rfl, run_takeDeferred hK2, ?_⟩⟩
    have z0 := put_cell (three_0 n0 n1 n2 (.int .i64 lim) (.slice a1 a2 a3) (.slice ra' n' rc')) hK2 rfl (.deferred none)
    have z1 := put_cell (three_1 n0 n1 n2 (.int .i64 lim) (.slice a1 a2 a3) (.slice ra' n' rc')) hK2 rfl (.deferred none)
    have z2 := put_cell (three_2 n0 n1 n2 (.int .i64 lim) (.slice a1 a2 a3) (.slice ra' n' rc')) hK2 rfl (.deferred none)
    have hsh := HME.out
    rw [← HPL.out, ← HHS.out, ← HHV.out, ← HHX.out, ← HPP.out, ← HPS.out] at hsh
    obtain ⟨x'', e1, e2⟩ := MSt.shed2 (x := ⟨ra', rc', ((a1, a2, a3), ml'), rs'⟩) (Y := (((X.setCell ⟨w.heap.size + 1, 0, none⟩ (.int .i64 lim)).setCell ⟨w.heap.size + 1, 1, none⟩ (.slice a1 a2 a3)).setCell ⟨w.heap.size + 1, 2, none⟩ (.slice ra' n' rc')).putObj D (.deferred none)) hsh (by simp [World.setCell]) (three_put HNT.out hK rfl _ _ _ _)
    refine ⟨.tuple #[.agg #[.int .i64 lim, .slice a1 a2 a3, .slice ra' n' rc'], .int .i64 0], (by simp [results, Try.results15, go_sem, z0, z1, z2]), ⟨x'', ?_, OB_mono e2 hbase⟩, put_low (((hblx.setCell (by dsimp only; omega) _).setCell (by dsimp only; omega) _).setCell (by dsimp only; omega) _) (by omega) hK2 _⟩
    rw [e1, HBV.out, HN.out]
  case stop =>
    rintro D c X hD h hK
    exact h.elim
end Go.Proofs.Ytnfknkihiapgiaa.bf
