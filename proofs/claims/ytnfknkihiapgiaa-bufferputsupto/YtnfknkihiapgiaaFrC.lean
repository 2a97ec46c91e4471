/- Several texts in one: BufEnts, BufEnts2. -/
import Derived.Test.YtnfknkihiapgiaaFrB
/- The document's entries: all of them, rising. -/
namespace Go.Proofs.Ytnfknkihiapgiaa.bf
open Go.ChangeShapes Go.WideShapes Go.ChangeAt Go.RowKit
open vl
set_option linter.unusedVariables false
set_option linter.unusedSimpArgs false
attribute [local go_sem] Oper.semAt_some
/-- what is there of those that came -/
structure ES (done l : List Ent) (f : Bool) : Prop where
  rise : Rise l
  len : l.length ≤ done.length
  fine : f = true ↔ (done.map plOf).Nodup
  perm : f = true → l.Perm done
  has : ∀ p, hasB l p = hasB done p
theorem ES.nil : ES [] [] true := ⟨List.Pairwise.nil, Nat.le_refl _, by simp, fun _ => List.Perm.refl _, fun _ => rfl⟩
theorem has_app (a b : List Ent) (p : Plc) : hasB (a ++ b) p = (hasB a p || hasB b p) := by unfold hasB; rw [List.any_append]
theorem has_one (y : Ent) (p : Plc) : hasB [y] p = hasB [y] p := rfl
theorem has_yes {l : List Ent} {p : Plc} (h : hasB l p = true) : p ∈ l.map plOf := by
  unfold hasB at h
  obtain ⟨x, hx, e⟩ := List.any_eq_true.1 h
  exact List.mem_map.2 ⟨x, hx, by simpa using e⟩
theorem has_cons (y : Ent) (l : List Ent) (p : Plc) : hasB (y :: l) p = (hasB [y] p || hasB l p) := has_app [y] l p
theorem has_self (y : Ent) : hasB [y] (plOf y) = true := by unfold hasB; simp
theorem has_sub {y : Ent} {l : List Ent} (h : hasB l (plOf y) = true) (p : Plc) (k : hasB [y] p = true) : hasB l p = true := by
  have e : p = plOf y := by
    have := has_yes k
    simpa using this
  rw [e]; exact h
theorem once_snoc {d : List Ent} {y : Ent} : ((d ++ [y]).map plOf).Nodup ↔ (d.map plOf).Nodup ∧ hasB d (plOf y) = false := by
  rw [List.map_append, List.nodup_append]
  constructor
  · rintro ⟨h1, _, h3⟩
    refine ⟨h1, ?_⟩
    cases e : hasB d (plOf y) with
    | false => rfl
    | true => exact absurd rfl (h3 _ (has_yes e) (plOf y) (by simp))
  · rintro ⟨h1, h2⟩
    refine ⟨h1, by simp, fun a ha b hb e => ?_⟩
    have : b = plOf y := by simpa using hb
    subst this
    subst e
    exact has_no h2 ha
theorem ES.there {d l : List Ent} {f : Bool} {y : Ent} (h : ES d l f) (hy : hasB l (plOf y) = true) : ES (d ++ [y]) l false := by
  have hd : hasB d (plOf y) = true := by rw [← h.has]; exact hy
  refine ⟨h.rise, by have := h.len; simp; omega, ?_, (fun e => by cases e), fun p => ?_⟩
  · rw [once_snoc, hd]; simp
  · rw [has_app, h.has p]
    cases e : hasB [y] p with
    | false => simp
    | true => rw [has_sub hd p e]; rfl
theorem ES.more {d l l' : List Ent} {f : Bool} {y : Ent} (h : ES d l f) (hy : hasB l (plOf y) = false) (hp : l'.Perm (y :: l)) (hr : Rise l') : ES (d ++ [y]) l' f := by
  have hd : hasB d (plOf y) = false := by rw [← h.has]; exact hy
  refine ⟨hr, by have := h.len; have := hp.length_eq; simp at *; omega, ?_, fun e => ?_, fun p => ?_⟩
  · rw [once_snoc, hd, h.fine]; simp
  · exact hp.trans (((h.perm e).cons y).trans (List.perm_append_singleton y d).symm)
  · rw [has_perm hp, has_cons, has_app, h.has p, Bool.or_comm]
theorem take_snoc {α : Type} {l : List α} {k : Nat} {d : α} (h : k < l.length) : l.take (k + 1) = l.take k ++ [l.getD k d] := by
  rw [List.take_add_one, List.getD_eq_getElem?_getD, List.getElem?_eq_getElem h]; rfl
/-- what came ahead of the part's k-th -/
def came (ps : List (List Ent)) (i k : Nat) : List Ent := (ps.take i).flatten ++ (ps.getD i default).take k
theorem came_next {ps : List (List Ent)} {i k : Nat} (h : k < (ps.getD i default).length) : came ps i (k + 1) = came ps i k ++ [(ps.getD i default).getD k default] := by
  unfold came
  rw [take_snoc (d := default) h, List.append_assoc]
theorem came_part {ps : List (List Ent)} {i : Nat} (h : i < ps.length) : came ps i (ps.getD i default).length = (ps.take (i + 1)).flatten := by
  unfold came
  rw [List.take_length, take_snoc (d := default) h, List.flatten_append, List.flatten_cons, List.flatten_nil, List.append_nil]
theorem came_zero (ps : List (List Ent)) (i : Nat) : came ps i 0 = (ps.take i).flatten := by unfold came; simp
theorem came_len {ps : List (List Ent)} {i k : Nat} (h : i < ps.length) : (came ps i k).length ≤ ps.flatten.length := by
  have h1 : (came ps i k).length ≤ ((ps.take (i + 1)).flatten).length := by
    rw [← came_part h]; unfold came; rw [List.length_append, List.length_append]
    have : ((ps.getD i default).take k).length ≤ ((ps.getD i default).take (ps.getD i default).length).length := by
      rw [List.length_take, List.length_take]; omega
    omega
  have h2 : ps.flatten = (ps.take (i + 1)).flatten ++ (ps.drop (i + 1)).flatten := by rw [← List.flatten_append, List.take_append_drop]
  rw [h2, List.length_append]; omega
end Go.Proofs.Ytnfknkihiapgiaa.bf

/- The document's entries, walked. -/
namespace Go.Proofs.Ytnfknkihiapgiaa.bf
open Go.ChangeShapes Go.WideShapes Go.ChangeAt Go.RowKit
open vl
set_option linter.unusedVariables false
set_option linter.unusedSimpArgs false
attribute [local go_sem] Oper.semAt_some
theorem parts_getD {w : World} {b : Buf} {x : BX} (h : bufAt w b x) {k : Nat} (hk : k < (partsB b).length) :
    ((x.m :: x.rs).getD k default).1.2.1 = ((partsB b).getD k default).length ∧ emsAt w ((x.m :: x.rs).getD k default).1.1 ((x.m :: x.rs).getD k default).2 ∧ ERs w ((x.m :: x.rs).getD k default).2 ((partsB b).getD k default) := by
  have hk2 : k < (x.m :: x.rs).length := by
    have : (partsB b).length = (x.m :: x.rs).length := by simp [partsB, h.rlen]
    omega
  have hm : (x.m :: x.rs).getD k default ∈ x.m :: x.rs := mem_getD hk2
  have he : ERs w ((x.m :: x.rs).getD k default).2 ((partsB b).getD k default) := by
    cases k with
    | zero => exact h.mem
    | succ k =>
      have hi' : k < b.runs.length := by simpa [partsB] using hk
      simpa [partsB] using h.runs k hi'
  exact ⟨by rw [(h.len _ hm).1, he.1], h.ems _ hm, he⟩
theorem part_mem {b : Buf} {k j : Nat} (hk : k < (partsB b).length) (hj : j < ((partsB b).getD k default).length) : ((partsB b).getD k default).getD j default ∈ entsB b :=
  List.mem_flatten.2 ⟨_, mem_getD hk, mem_getD hj⟩
set_option maxRecDepth 100000 in
set_option maxHeartbeats 8000000 in
theorem entries_any (b : Buf) (x : BX) (w : World) (h : bufAt w b x) (hs : (entsB b).length ≤ 100000) (hrow : ∀ y ∈ entsB b, y.row.length ≤ 2000000) :
    Calls Try.prog 41 #[bufV b x] w fun r w' => (∃ (hh : Hdr) (es : List EM) (l : List Ent) (f : Bool), r = .returned (.tuple #[hdV hh, .bool f]) ∧ OE w' (w.heap.size + 1) (hdV hh) es l ∧ ES (entsB b) l f) ∧ Below w.heap.size w w' := by
  have HP : Hid (∀ k, k < (partsB b).length → ((x.m :: x.rs).getD k default).1.2.1 = ((partsB b).getD k default).length ∧ emsAt w ((x.m :: x.rs).getD k default).1.1 ((x.m :: x.rs).getD k default).2 ∧ ERs w ((x.m :: x.rs).getD k default).2 ((partsB b).getD k default)) := fun k hk => parts_getD h hk
  have HROW : Hid (∀ k j, k < (partsB b).length → j < ((partsB b).getD k default).length → (((partsB b).getD k default).getD j default).row.length ≤ 2000000) := fun k j hk hj => hrow _ (part_mem hk hj)
  have HD : Hid (hdsAt w x.ra (x.rs.map (·.1))) := h.hds
  have hfew := h.few
  have HPN : Hid ((partsB b).length = x.rs.length + 1) := by show _ = _; simp [partsB, h.rlen]
  have HS : Hid ((partsB b).flatten.length ≤ 100000) := hs
  have HEB : Hid (entsB b = (partsB b).flatten) := rfl
  clear h hs hrow
  obtain ⟨EB, hEB⟩ : ∃ z, entsB b = z := ⟨_, rfl⟩
  rw [hEB] at HEB ⊢
  obtain ⟨PB, hPB⟩ : ∃ z, partsB b = z := ⟨_, rfl⟩
  rw [hPB] at HP HROW HPN HS HEB
  clear hEB hPB
  obtain ⟨ra, rc, ⟨⟨m1, m2, m3⟩, ml⟩, rs⟩ := x
  obtain ⟨lim, mem, runs⟩ := b
  unfold bufV hdV
  dsimp only at HP HD hfew HPN ⊢
  obtain ⟨n, hn⟩ : ∃ n, rs.length = n := ⟨_, rfl⟩
  have HN : Hid (rs.length = n) := hn
  rw [hn] at HPN hfew
  rw [hn]
  clear hn
  have hb0 : Below w.heap.size w (w.alloc (.cells #[.int .i64 lim, .slice m1 m2 m3, .slice ra n rc] 25)) := (Below.refl _ _).alloc (Nat.le_refl _) _
  have k0 : (w.alloc (.cells #[.int .i64 lim, .slice m1 m2 m3, .slice ra n rc] 25)).cell? ⟨w.heap.size, 0, none⟩ = some (.int .i64 lim) := by go_simp
  have k1 : (w.alloc (.cells #[.int .i64 lim, .slice m1 m2 m3, .slice ra n rc] 25)).cell? ⟨w.heap.size, 1, none⟩ = some (.slice m1 m2 m3) := by go_simp
  have k2 : (w.alloc (.cells #[.int .i64 lim, .slice m1 m2 m3, .slice ra n rc] 25)).cell? ⟨w.heap.size, 2, none⟩ = some (.slice ra n rc) := by go_simp
  have hW0s : (w.alloc (.cells #[.int .i64 lim, .slice m1 m2 m3, .slice ra n rc] 25)).heap.size = w.heap.size + 1 := by simp
  go_enter Try.func41, Try.ntmps41
  go_wp2
  generalize w.alloc (.cells #[.int .i64 lim, .slice m1 m2 m3, .slice ra n rc] 25) = W0 at *
  go_loopw [4, 5, 6, 7, 8, 9] (fun o fi ii _ _ _ wr => ∃ (k : Nat) (hh : Hdr) (es : List EM) (l : List Ent) (f : Bool), o = hdV hh ∧ fi = .bool f ∧ ii = .int .i64 ((k : Int) - 1) ∧ k ≤ n + 1 ∧ OE wr W0.heap.size (hdV hh) es l ∧ ES ((PB.take k).flatten) l f ∧ Below W0.heap.size W0 wr) (fun _ _ ii _ _ _ _ => n + 1 - (intOf ii + 1).toNat)
  case atStart => exact ⟨0, (none, 0, 0), [], [], true, rfl, rfl, rfl, Nat.zero_le _, OE_nil (Nat.le_refl _), ES.nil, Below.refl _ _⟩
  case round =>
    obtain ⟨k, hh, es, l, f, rfl, rfl, rfl, hk, hoe, hes, hnx⟩ := hrel
    have HOE : Hid (OE wr W0.heap.size (hdV hh) es l) := hoe
    have HES : Hid (ES ((PB.take k).flatten) l f) := hes
    have hbr : Below w.heap.size w wr := hb0.trans (hnx.mono (by omega))
    have c0 := cell_later hnx k0
    have c1 := cell_later hnx k1
    have c2 := cell_later hnx k2
    have lw : w.heap.size < wr.heap.size := World.block_lt_of_cell? _ _ c0
    clear hoe hes
    by_cases hlt : k < n + 1
    · have hkp : k < PB.length := by rw [HPN.out]; exact hlt
      cases k with
      | zero =>
        obtain ⟨K, HK⟩ : ∃ z : Nat, Hid (z = 0) := ⟨0, rfl⟩
        have HPK := HP.out 0 (by rw [HPN.out]; omega)
        obtain ⟨pl, hpl⟩ : ∃ z, (PB.getD K default).length = z := ⟨_, rfl⟩
        have HPL : Hid ((PB.getD K default).length = pl) := hpl
        have hm2 : pl = m2 := by rw [← hpl, HK.out, ← HPK.1]; rfl
        have HEM : Hid (emsAt w m1 ml) := HPK.2.1
        have HER : Hid (ERs w ml (PB.getD K default)) := by rw [HK.out]; exact HPK.2.2
        have hkp : K < PB.length := by rw [HK.out]; exact hkp
        have HES : Hid (ES ((PB.take K).flatten) l f) := by rw [HK.out]; exact HES.out
        obtain ⟨pt, hpt⟩ : ∃ z, ml = z := ⟨_, rfl⟩
        rw [hpt] at HEM HER
        subst hm2
        have hbig : pl ≤ 9223372036854775807 := by
          have h1 := came_len (ps := PB) (i := K) (k := pl) hkp
          unfold came at h1
          rw [List.length_append, List.length_take, hpl] at h1
          have := HS.out
          omega
        clear HPK hpl hpt
        obtain ⟨o1, o2, o3⟩ := hh
        unfold hdV
        dsimp only
        go_wp2
        go_loopw [4, 5, 8, 9] (fun o fi jj _ wr => ∃ (j : Nat) (hh : Hdr) (es : List EM) (l : List Ent) (f : Bool), o = hdV hh ∧ fi = .bool f ∧ jj = .int .i64 j ∧ j ≤ pl ∧ OE wr W0.heap.size (hdV hh) es l ∧ ES (came PB K j) l f ∧ Below W0.heap.size W0 wr) (fun _ _ jj _ _ => pl - (intOf jj).toNat)
        case atStart => exact ⟨0, (o1, o2, o3), es, l, f, rfl, rfl, rfl, Nat.zero_le _, HOE.out, by rw [came_zero]; exact HES.out, hnx⟩
        case round =>
          obtain ⟨j, hh2, es2, l2, f2, rfl, rfl, rfl, hj, hoe2, hes2, hny⟩ := hrel
          have HOE2 : Hid (OE wr W0.heap.size (hdV hh2) es2 l2) := hoe2
          have HES2 : Hid (ES (came PB K j) l2 f2) := hes2
          have hbr2 : Below w.heap.size w wr := hb0.trans (hny.mono (by omega))
          have e0 := cell_later hny k0
          have e1 := cell_later hny k1
          have e2 := cell_later hny k2
          have lw2 : w.heap.size < wr.heap.size := World.block_lt_of_cell? _ _ e0
          have hl2 : l2.length ≤ 100000 := Nat.le_trans hes2.len (Nat.le_trans (came_len hkp) HS.out)
          obtain ⟨h1, h2, h3⟩ := hh2
          have hform : h2 = es2.length := by
            obtain ⟨ad, cp, e⟩ := hoe2.form
            unfold hdV at e
            cases e; rfl
          subst hform
          unfold hdV at HOE2 ⊢
          dsimp only at HOE2 ⊢
          by_cases hjl : j < pl
          · have hjl2 : j < (PB.getD K default).length := by rw [HPL.out]; exact hjl
            obtain ⟨b1, o1, ee, z1, z2, z3, z4, z5⟩ := emsAt_below HEM.out hbr2 j (by rw [HER.out.1, HPL.out]; exact hjl)
            subst ee
            have her := HER.out.2 j hjl2
            have KI : Hid (Calls Try.prog 45 #[.slice h1 es2.length h3, (pt.getD j default).val] wr fun r w' => (∃ (hh : Hdr) (es' : List EM) (l' : List Ent), r = .returned (.tuple #[hdV hh, .bool (!hasB l2 (plOf ((PB.getD K default).getD j default)))]) ∧ OE w' W0.heap.size (hdV hh) es' l' ∧ (hasB l2 (plOf ((PB.getD K default).getD j default)) = true → l' = l2) ∧ (hasB l2 (plOf ((PB.getD K default).getD j default)) = false → l'.Perm (((PB.getD K default).getD j default) :: l2) ∧ Rise l') ∧ (∀ g, (hdV hh).ownBlock = some g → (Value.slice h1 es2.length h3).ownBlock = some g ∨ wr.heap.size ≤ g)) ∧ Below W0.heap.size wr w' ∧ Left wr w' W0.heap.size (.slice h1 es2.length h3)) :=
              into_any W0.heap.size h1 h3 es2 l2 (pt.getD j default) ((PB.getD K default).getD j default) wr HOE2.out (fun w1 hb1 => her.below (hbr2.trans (hb1.mono (by omega)))) HES2.out.rise hl2 (HROW.out K j hkp hjl2)
            have HNX : Hid (came PB K (j + 1) = came PB K j ++ [(PB.getD K default).getD j default]) := came_next hjl2
            obtain ⟨⟨fk, ft, fs, ⟨f1, f3, f4⟩, fm⟩, hz⟩ : ∃ z, pt.getD j default = z := ⟨_, rfl⟩
            rw [hz] at z1 z2 z3 z4 z5 KI
            unfold EM.val at KI
            unfold hdV at z4
            dsimp only at z1 z2 z3 z4 z5 KI
            rw [show hdV (f1, f3, f4) = .slice f1 f3 f4 from rfl] at KI
            obtain ⟨HB, hHB⟩ : ∃ z, hasB l2 (plOf ((PB.getD K default).getD j default)) = z := ⟨_, rfl⟩
            have HHB : Hid (hasB l2 (plOf ((PB.getD K default).getD j default)) = HB) := hHB
            rw [hHB] at KI
            have i1 : (0 : Int) ≤ (j : Int) := by omega
            have i2 : (j : Int) < (pl : Int) := by omega
            have lb1 : b1 < wr.heap.size := World.block_lt_of_cell? _ _ z1
            clear hz hHB her hoe2 hes2 hl2
            cases f2 with
            | true =>
              go_wp2_with (go_at_call 45; refine KI.out.mono ?_; rintro e6 w6 ⟨⟨⟨q1, q2, q3⟩, es6, l6, rfl, hoe6, ht6, hf6, _⟩, hb6, _⟩; unfold hdV at hoe6 ⊢; dsimp only at hoe6 ⊢; have HO6 : Hid (OE w6 W0.heap.size (.slice q1 q2 q3) es6 l6 ∧ (HB = true → l6 = l2) ∧ (HB = false → l6.Perm (((PB.getD K default).getD j default) :: l2) ∧ Rise l6)) := ⟨hoe6, ht6, hf6⟩; clear hoe6 ht6 hf6; cases HB)
              all_goals
                go_roundw
                case rel => exact ⟨j + 1, (q1, q2, q3), es6, l6, _, rfl, rfl, by go_num, by omega, HO6.out.1, by rw [HNX.out]; first | exact HES2.out.more HHB.out (HO6.out.2.2 rfl).1 (HO6.out.2.2 rfl).2 | (rw [HO6.out.2.1 rfl]; exact HES2.out.there HHB.out), hny.trans hb6⟩
                case measure => simp [intOf]; omega
            | false =>
              go_wp2_with (go_at_call 45; refine KI.out.mono ?_; rintro e6 w6 ⟨⟨⟨q1, q2, q3⟩, es6, l6, rfl, hoe6, ht6, hf6, _⟩, hb6, _⟩; unfold hdV at hoe6 ⊢; dsimp only at hoe6 ⊢; have HO6 : Hid (OE w6 W0.heap.size (.slice q1 q2 q3) es6 l6 ∧ (HB = true → l6 = l2) ∧ (HB = false → l6.Perm (((PB.getD K default).getD j default) :: l2) ∧ Rise l6)) := ⟨hoe6, ht6, hf6⟩; clear hoe6 ht6 hf6; cases HB)
              all_goals
                go_roundw
                case rel => exact ⟨j + 1, (q1, q2, q3), es6, l6, _, rfl, rfl, by go_num, by omega, HO6.out.1, by rw [HNX.out]; first | exact HES2.out.more HHB.out (HO6.out.2.2 rfl).1 (HO6.out.2.2 rfl).2 | (rw [HO6.out.2.1 rfl]; exact HES2.out.there HHB.out), hny.trans hb6⟩
                case measure => simp [intOf]; omega
          · have hje : j = pl := by omega
            subst hje
            go_wp2
            go_roundw
            case rel => exact ⟨K + 1, (h1, es2.length, h3), es2, l2, f2, rfl, rfl, (by have hK := HK.out; subst hK; first | rfl | go_num | (congr 1; omega)), by have := HK.out; omega, HOE2.out, by rw [← came_part hkp, HPL.out]; exact HES2.out, hny⟩
            case measure => (have hK := HK.out; subst hK; simp [intOf] <;> omega)
      | succ k =>
        obtain ⟨K, HK⟩ : ∃ z : Nat, Hid (z = k + 1) := ⟨k + 1, rfl⟩
        obtain ⟨b2, o4, e4, x4⟩ := HD.out k (by rw [List.length_map, HN.out]; omega)
        subst e4
        have z0 := cell_later hbr x4
        have ee1 : (rs.map (·.1)).getD k (none, 0, 0) = (rs.getD k default).1 := by rw [List.getD_eq_getElem?_getD, List.getElem?_map, List.getElem?_eq_getElem (by rw [HN.out]; omega), List.getD_eq_getElem?_getD, List.getElem?_eq_getElem (by rw [HN.out]; omega)]; rfl
        rw [ee1] at z0
        have HPK : Hid ((rs.getD k default).1.2.1 = (PB.getD (k + 1) default).length ∧ emsAt w (rs.getD k default).1.1 (rs.getD k default).2 ∧ ERs w (rs.getD k default).2 (PB.getD (k + 1) default)) := HP.out (k + 1) hkp
        obtain ⟨⟨⟨m4, m5, m6⟩, pt⟩, hz⟩ : ∃ z, rs.getD k default = z := ⟨_, rfl⟩
        rw [hz] at z0 HPK
        unfold hdV at z0
        dsimp only at z0 HPK
        obtain ⟨pl, hpl⟩ : ∃ z, (PB.getD K default).length = z := ⟨_, rfl⟩
        have HPL : Hid ((PB.getD K default).length = pl) := hpl
        have hm2 : pl = m5 := by rw [← hpl, HK.out, ← HPK.out.1]
        have HEM : Hid (emsAt w m4 pt) := HPK.out.2.1
        have HER : Hid (ERs w pt (PB.getD K default)) := by rw [HK.out]; exact HPK.out.2.2
        have hkp : K < PB.length := by rw [HK.out]; exact hkp
        have HES : Hid (ES ((PB.take K).flatten) l f) := by rw [HK.out]; exact HES.out
        subst hm2
        have hbig : pl ≤ 9223372036854775807 := by
          have h1 := came_len (ps := PB) (i := K) (k := pl) hkp
          unfold came at h1
          rw [List.length_append, List.length_take, hpl] at h1
          have := HS.out
          omega
        have hsm : ((k + 1 : Nat) : Int) - 1 = (k : Int) := by omega
        have i3 : (0 : Int) ≤ (k : Int) := by omega
        have i4 : (k : Int) < (n : Int) := by omega
        clear HPK hpl hz ee1 x4
        obtain ⟨o1, o2, o3⟩ := hh
        unfold hdV
        dsimp only
        rw [hsm]
        clear hsm
        go_wp2
        go_loopw [4, 5, 8, 9] (fun o fi jj _ wr => ∃ (j : Nat) (hh : Hdr) (es : List EM) (l : List Ent) (f : Bool), o = hdV hh ∧ fi = .bool f ∧ jj = .int .i64 j ∧ j ≤ pl ∧ OE wr W0.heap.size (hdV hh) es l ∧ ES (came PB K j) l f ∧ Below W0.heap.size W0 wr) (fun _ _ jj _ _ => pl - (intOf jj).toNat)
        case atStart => exact ⟨0, (o1, o2, o3), es, l, f, rfl, rfl, rfl, Nat.zero_le _, HOE.out, by rw [came_zero]; exact HES.out, hnx⟩
        case round =>
          obtain ⟨j, hh2, es2, l2, f2, rfl, rfl, rfl, hj, hoe2, hes2, hny⟩ := hrel
          have HOE2 : Hid (OE wr W0.heap.size (hdV hh2) es2 l2) := hoe2
          have HES2 : Hid (ES (came PB K j) l2 f2) := hes2
          have hbr2 : Below w.heap.size w wr := hb0.trans (hny.mono (by omega))
          have e0 := cell_later hny k0
          have e1 := cell_later hny k1
          have e2 := cell_later hny k2
          have lw2 : w.heap.size < wr.heap.size := World.block_lt_of_cell? _ _ e0
          have hl2 : l2.length ≤ 100000 := Nat.le_trans hes2.len (Nat.le_trans (came_len hkp) HS.out)
          obtain ⟨h1, h2, h3⟩ := hh2
          have hform : h2 = es2.length := by
            obtain ⟨ad, cp, e⟩ := hoe2.form
            unfold hdV at e
            cases e; rfl
          subst hform
          unfold hdV at HOE2 ⊢
          dsimp only at HOE2 ⊢
          by_cases hjl : j < pl
          · have hjl2 : j < (PB.getD K default).length := by rw [HPL.out]; exact hjl
            obtain ⟨b1, o1, ee, z1, z2, z3, z4, z5⟩ := emsAt_below HEM.out hbr2 j (by rw [HER.out.1, HPL.out]; exact hjl)
            subst ee
            have her := HER.out.2 j hjl2
            have KI : Hid (Calls Try.prog 45 #[.slice h1 es2.length h3, (pt.getD j default).val] wr fun r w' => (∃ (hh : Hdr) (es' : List EM) (l' : List Ent), r = .returned (.tuple #[hdV hh, .bool (!hasB l2 (plOf ((PB.getD K default).getD j default)))]) ∧ OE w' W0.heap.size (hdV hh) es' l' ∧ (hasB l2 (plOf ((PB.getD K default).getD j default)) = true → l' = l2) ∧ (hasB l2 (plOf ((PB.getD K default).getD j default)) = false → l'.Perm (((PB.getD K default).getD j default) :: l2) ∧ Rise l') ∧ (∀ g, (hdV hh).ownBlock = some g → (Value.slice h1 es2.length h3).ownBlock = some g ∨ wr.heap.size ≤ g)) ∧ Below W0.heap.size wr w' ∧ Left wr w' W0.heap.size (.slice h1 es2.length h3)) :=
              into_any W0.heap.size h1 h3 es2 l2 (pt.getD j default) ((PB.getD K default).getD j default) wr HOE2.out (fun w1 hb1 => her.below (hbr2.trans (hb1.mono (by omega)))) HES2.out.rise hl2 (HROW.out K j hkp hjl2)
            have HNX : Hid (came PB K (j + 1) = came PB K j ++ [(PB.getD K default).getD j default]) := came_next hjl2
            obtain ⟨⟨fk, ft, fs, ⟨f1, f3, f4⟩, fm⟩, hz⟩ : ∃ z, pt.getD j default = z := ⟨_, rfl⟩
            rw [hz] at z1 z2 z3 z4 z5 KI
            unfold EM.val at KI
            unfold hdV at z4
            dsimp only at z1 z2 z3 z4 z5 KI
            rw [show hdV (f1, f3, f4) = .slice f1 f3 f4 from rfl] at KI
            obtain ⟨HB, hHB⟩ : ∃ z, hasB l2 (plOf ((PB.getD K default).getD j default)) = z := ⟨_, rfl⟩
            have HHB : Hid (hasB l2 (plOf ((PB.getD K default).getD j default)) = HB) := hHB
            rw [hHB] at KI
            have i1 : (0 : Int) ≤ (j : Int) := by omega
            have i2 : (j : Int) < (pl : Int) := by omega
            have lb1 : b1 < wr.heap.size := World.block_lt_of_cell? _ _ z1
            clear hz hHB her hoe2 hes2 hl2
            cases f2 with
            | true =>
              go_wp2_with (go_at_call 45; refine KI.out.mono ?_; rintro e6 w6 ⟨⟨⟨q1, q2, q3⟩, es6, l6, rfl, hoe6, ht6, hf6, _⟩, hb6, _⟩; unfold hdV at hoe6 ⊢; dsimp only at hoe6 ⊢; have HO6 : Hid (OE w6 W0.heap.size (.slice q1 q2 q3) es6 l6 ∧ (HB = true → l6 = l2) ∧ (HB = false → l6.Perm (((PB.getD K default).getD j default) :: l2) ∧ Rise l6)) := ⟨hoe6, ht6, hf6⟩; clear hoe6 ht6 hf6; cases HB)
              all_goals
                go_roundw
                case rel => exact ⟨j + 1, (q1, q2, q3), es6, l6, _, rfl, rfl, by go_num, by omega, HO6.out.1, by rw [HNX.out]; first | exact HES2.out.more HHB.out (HO6.out.2.2 rfl).1 (HO6.out.2.2 rfl).2 | (rw [HO6.out.2.1 rfl]; exact HES2.out.there HHB.out), hny.trans hb6⟩
                case measure => simp [intOf]; omega
            | false =>
              go_wp2_with (go_at_call 45; refine KI.out.mono ?_; rintro e6 w6 ⟨⟨⟨q1, q2, q3⟩, es6, l6, rfl, hoe6, ht6, hf6, _⟩, hb6, _⟩; unfold hdV at hoe6 ⊢; dsimp only at hoe6 ⊢; have HO6 : Hid (OE w6 W0.heap.size (.slice q1 q2 q3) es6 l6 ∧ (HB = true → l6 = l2) ∧ (HB = false → l6.Perm (((PB.getD K default).getD j default) :: l2) ∧ Rise l6)) := ⟨hoe6, ht6, hf6⟩; clear hoe6 ht6 hf6; cases HB)
              all_goals
                go_roundw
                case rel => exact ⟨j + 1, (q1, q2, q3), es6, l6, _, rfl, rfl, by go_num, by omega, HO6.out.1, by rw [HNX.out]; first | exact HES2.out.more HHB.out (HO6.out.2.2 rfl).1 (HO6.out.2.2 rfl).2 | (rw [HO6.out.2.1 rfl]; exact HES2.out.there HHB.out), hny.trans hb6⟩
                case measure => simp [intOf]; omega
          · have hje : j = pl := by omega
            subst hje
            go_wp2
            go_roundw
            case rel => exact ⟨K + 1, (h1, es2.length, h3), es2, l2, f2, rfl, rfl, (by have hK := HK.out; subst hK; first | rfl | go_num | (congr 1; omega)), by have := HK.out; omega, HOE2.out, by rw [← came_part hkp, HPL.out]; exact HES2.out, hny⟩
            case measure => (have hK := HK.out; subst hK; simp [intOf] <;> omega)
    · have hke : k = n + 1 := by omega
      subst hke
      obtain ⟨o1, o2, o3⟩ := hh
      unfold hdV
      dsimp only
      have hnot : ¬ (((n + 1 : Nat) : Int) - 1 < (n : Int)) := by omega
      have hsm : ((n + 1 : Nat) : Int) - 1 = (n : Int) := by omega
      rw [hsm]
      clear hsm hnot
      go_wp2
      go_ret2
      refine ⟨⟨(o1, o2, o3), es, l, f, rfl, ?_, ?_⟩, hbr⟩
      · rw [← hW0s]; exact HOE.out
      · rw [HEB.out]
        have := HES.out
        rw [List.take_of_length_le (by rw [HPN.out]; exact Nat.le_refl _)] at this
        exact this
end Go.Proofs.Ytnfknkihiapgiaa.bf
