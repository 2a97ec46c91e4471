/- The document's OwnBuffer. -/
import Derived.Test.YtnfknkihiapgiaaBufRCheck
namespace Go.Proofs.Ytnfknkihiapgiaa.bf
open Go.ChangeShapes Go.WideShapes Go.ChangeAt Go.RowKit
open vl
set_option linter.unusedVariables false
set_option linter.unusedSimpArgs false
attribute [local go_sem] Oper.semAt_some
/-- what is there ahead of the k-th part -/
def stB (P : Ent → Bool) (lim : Int) (mem : List Ent) (runs : List (List Ent)) (k : Nat) : Buf := ⟨lim, if k = 0 then [] else mem.filter P, keptR P (runs.take (k - 1))⟩
def zeroX3 : BX := ⟨none, 0, ((none, 0, 0), []), []⟩
theorem startC {W W1 : World} {C NB base : Nat} {lim : Int} {hh : Hdr} {es : List EM} {l : List Ent} (h : KSt W C NB base zeroX3 ⟨lim, [], []⟩) (hf : W.frozen? ⟨NB, 1, none⟩ = false) (hb : Below W.heap.size W W1) (ho : OE W1 W.heap.size (hdV hh) es l) :
    KSt (W1.setCell ⟨NB, 1, none⟩ (hdV hh)) C NB base ⟨none, 0, (hh, es), []⟩ ⟨lim, l, []⟩ ∧ Below base W (W1.setCell ⟨NB, 1, none⟩ (hdV hh)) := by
  have h1 := h.below hb
  have hlow := h.ob.low
  have hne := h.ne
  have hup := h.up
  obtain ⟨ob, c0, c1, c2, f2, ty, r0, r1, r2, g0, g1, g2, rt, ne, up⟩ := h1
  have eC : (W1.setCell ⟨NB, 1, none⟩ (hdV hh)).heap[C]? = W1.heap[C]? := heap_setCell_other _ _ _ _ (by dsimp only; omega)
  refine ⟨⟨OB_first (OE_set (ho.mono hlow) ty _ _), ?_, ?_, ?_, ?_, tyAt_set ty _ _, ?_, ?_, ?_, ?_, ?_, ?_, tyAt_of rt eC, ne, up⟩, (hb.mono hlow).setCell (by dsimp only; omega) _⟩
  · go_simp
  · exact World.cell?_setCell_same _ _ _ c1
  · unfold zeroX3 at c2
    dsimp only at c2 ⊢
    go_simp
  · go_simp
  · exact (World.cell?_of_block (a := ⟨C, 0, none⟩) eC).trans r0
  · exact (World.cell?_of_block (a := ⟨C, 1, none⟩) eC).trans r1
  · exact (World.cell?_of_block (a := ⟨C, 2, none⟩) eC).trans r2
  · exact (froz_of (p := ⟨C, 0, none⟩) eC).trans g0
  · exact (froz_of (p := ⟨C, 1, none⟩) eC).trans g1
  · exact (froz_of (p := ⟨C, 2, none⟩) eC).trans g2
theorem five_new {W : World} {m : Nat} (hm : W.heap.size = m) (k : ByteArray) (a b : Int) (r : Hdr) (f : Bool) : ∀ j u, [Value.string k, .int .i64 a, .int .i64 b, .slice r.1 r.2.1 r.2.2, .bool f][j]? = some u → (W.alloc (.cells #[.string k, .int .i64 a, .int .i64 b, .slice r.1 r.2.1 r.2.2, .bool f] 28)).cell? ((⟨m, 0, none⟩ : Addr).add j) = some u := by
  subst hm
  exact cell_five_new _ _ _ _ _ _ _
theorem copy_kept {A w2 : World} {B m rl c3 : Nat} {ad2 : Option Addr} {r : List Cel} {u : Value} (h : ownV w2 A.heap.size (.slice ad2 rl c3) r) (hm : m ≤ B) (hB : B < A.heap.size) : ownV (w2.setCell ⟨B, 3, none⟩ u) m (.slice ad2 rl c3) r :=
  own_mono (own_same h (fun g hg => heap_setCell_other _ _ _ _ (by have := (own_lt h hg).1; dsimp only; omega))) (by omega)
set_option maxRecDepth 100000 in
set_option maxHeartbeats 16000000 in
theorem own_any (fn : FuncId) (eg : ∀ args w, (callFunc fn args).run Try.prog w = .ok (.enter fn args) w) (caps : Array Value) (P : Ent → Bool) (b : Buf) (x : BX) (w : World) (h : bufAt w b x) (hl : ∀ l ∈ partsB b, l.length ≤ 100000) (hr : b.runs.length ≤ 100000) (hrow : ∀ y ∈ entsB b, y.row.length ≤ 2000000)
    (H : ∀ e y w1, ER w1 e y → y ∈ entsB b → Below w.heap.size w w1 → Calls Try.prog fn (#[e.val] ++ caps) w1 fun r w' => r = .returned (.bool (P y)) ∧ Below w1.heap.size w1 w') :
    Calls Try.prog 43 #[bufV b x, .func (.func fn) #[] caps] w fun e w' => (∃ x', e = .returned (bufV (keptB P b) x') ∧ OB w' w.heap.size x' (keptB P b)) ∧ Below w.heap.size w w' := by
  obtain ⟨i0, hi0, hz0, hz1, hz2⟩ := info_parts infoH
  have HI : Hid (Try.prog.info? 22 = some i0 ∧ i0.zero = some (.slice none 0 0) ∧ i0.size = 1 ∧ i0.bytes = 24) := ⟨hi0, hz0, hz1, hz2⟩
  clear hi0 hz0 hz1 hz2
  obtain ⟨iE, hi0, hz0, hz1, hz2⟩ := info_parts infoE
  have HJ : Hid (Try.prog.info? 28 = some iE ∧ iE.zero = some (.agg #[.string ⟨#[]⟩, .int .i64 0, .int .i64 0, .slice none 0 0, .bool false]) ∧ iE.size = 5 ∧ iE.bytes = 64) := ⟨hi0, hz0, hz1, hz2⟩
  clear hi0 hz0 hz1 hz2
  have HP : Hid (∀ k, k < (partsB b).length → ((x.m :: x.rs).getD k default).1.2.1 = ((partsB b).getD k default).length ∧ emsAt w ((x.m :: x.rs).getD k default).1.1 ((x.m :: x.rs).getD k default).2 ∧ ERs w ((x.m :: x.rs).getD k default).2 ((partsB b).getD k default)) := fun k hk => parts_getD h hk
  have HROW : Hid (∀ k j, k < (partsB b).length → j < ((partsB b).getD k default).length → (((partsB b).getD k default).getD j default).row.length ≤ 2000000) := fun k j hk hj => hrow _ (part_mem hk hj)
  have HLL : Hid (∀ k, k < (partsB b).length → ((partsB b).getD k default).length ≤ 100000) := fun k hk => hl _ (mem_getD hk)
  have HW : Hid (∀ k j e w1, k < (partsB b).length → j < ((partsB b).getD k default).length → ER w1 e (((partsB b).getD k default).getD j default) → Below w.heap.size w w1 → Calls Try.prog fn (#[e.val] ++ caps) w1 fun r w' => r = .returned (.bool (P (((partsB b).getD k default).getD j default))) ∧ Below w1.heap.size w1 w') := fun k j e w1 hk hj he hb => H e _ w1 he (part_mem hk hj) hb
  have HD : Hid (hdsAt w x.ra (x.rs.map (·.1))) := h.hds
  have HPN : Hid ((partsB b).length = x.rs.length + 1) := by show _ = _; simp [partsB, h.rlen]
  have hrl := h.rlen
  have HPM : Hid ((partsB b).getD 0 default = b.mem ∧ ∀ k, (partsB b).getD (k + 1) default = b.runs.getD k default) := ⟨rfl, fun k => by simp [partsB]⟩
  clear h hl hrow H
  obtain ⟨PB, hPB⟩ : ∃ z, partsB b = z := ⟨_, rfl⟩
  rw [hPB] at HP HROW HLL HW HPN HPM
  clear hPB
  obtain ⟨ra, rc, ⟨⟨m1, m2, m3⟩, ml⟩, rs⟩ := x
  obtain ⟨lim, mem, runs⟩ := b
  unfold bufV hdV
  dsimp only at HP HD HPN HPM hr hrl ⊢
  obtain ⟨n, hn⟩ : ∃ n, rs.length = n := ⟨_, rfl⟩
  have HN : Hid (rs.length = n ∧ runs.length = n) := ⟨hn, by rw [← hrl, hn]⟩
  rw [hn] at HPN
  rw [hn]
  have hn9 : n ≤ 100000 := by omega
  clear hn hrl hr
  have k0 : (((w.alloc (.cells #[.int .i64 lim, .slice m1 m2 m3, .slice ra n rc] 25)).alloc (.cells #[.int .i64 0, .slice none 0 0, .slice none 0 0] 25)).alloc (.cells #[.int .i64 lim, .slice none 0 0, .slice none 0 0] 25)).cell? ⟨w.heap.size, 0, none⟩ = some (.int .i64 lim) := by go_simp
  have k1 : (((w.alloc (.cells #[.int .i64 lim, .slice m1 m2 m3, .slice ra n rc] 25)).alloc (.cells #[.int .i64 0, .slice none 0 0, .slice none 0 0] 25)).alloc (.cells #[.int .i64 lim, .slice none 0 0, .slice none 0 0] 25)).cell? ⟨w.heap.size, 1, none⟩ = some (.slice m1 m2 m3) := by go_simp
  have k2 : (((w.alloc (.cells #[.int .i64 lim, .slice m1 m2 m3, .slice ra n rc] 25)).alloc (.cells #[.int .i64 0, .slice none 0 0, .slice none 0 0] 25)).alloc (.cells #[.int .i64 lim, .slice none 0 0, .slice none 0 0] 25)).cell? ⟨w.heap.size, 2, none⟩ = some (.slice ra n rc) := by go_simp
  have kf : (((w.alloc (.cells #[.int .i64 lim, .slice m1 m2 m3, .slice ra n rc] 25)).alloc (.cells #[.int .i64 0, .slice none 0 0, .slice none 0 0] 25)).alloc (.cells #[.int .i64 lim, .slice none 0 0, .slice none 0 0] 25)).frozen? ⟨w.heap.size + 1 + 1, 1, none⟩ = false := by go_simp
  have hb0 : Below w.heap.size w (((w.alloc (.cells #[.int .i64 lim, .slice m1 m2 m3, .slice ra n rc] 25)).alloc (.cells #[.int .i64 0, .slice none 0 0, .slice none 0 0] 25)).alloc (.cells #[.int .i64 lim, .slice none 0 0, .slice none 0 0] 25)) := by
    repeat (first | exact Below.refl _ _ | (refine Below.alloc ?_ (by simp <;> omega) _))
  have hVs : (((w.alloc (.cells #[.int .i64 lim, .slice m1 m2 m3, .slice ra n rc] 25)).alloc (.cells #[.int .i64 0, .slice none 0 0, .slice none 0 0] 25)).alloc (.cells #[.int .i64 lim, .slice none 0 0, .slice none 0 0] 25)).heap.size = w.heap.size + 1 + 1 + 1 := by simp
  have HK0 : Hid (KSt (((w.alloc (.cells #[.int .i64 lim, .slice m1 m2 m3, .slice ra n rc] 25)).alloc (.cells #[.int .i64 0, .slice none 0 0, .slice none 0 0] 25)).alloc (.cells #[.int .i64 lim, .slice none 0 0, .slice none 0 0] 25)) (w.heap.size + 1) (w.heap.size + 1 + 1) (w.heap.size + 1) zeroX3 ⟨lim, [], []⟩) := by
    have nb := nb_alloc (w.alloc (.cells #[.int .i64 lim, .slice m1 m2 m3, .slice ra n rc] 25))
    rw [World.size_alloc] at nb
    have k := startA (base := w.heap.size + 1) (base' := w.heap.size + 1) (hh := (none, 0, 0)) (es := []) (l := []) (lim := lim) nb (OE_nil (by simp)) (Nat.le_refl _) (Nat.le_refl _)
    rw [World.size_alloc, World.size_alloc] at k
    exact k
  go_enter Try.func43, Try.ntmps43
  go_wp2
  generalize ((w.alloc (.cells #[.int .i64 lim, .slice m1 m2 m3, .slice ra n rc] 25)).alloc (.cells #[.int .i64 0, .slice none 0 0, .slice none 0 0] 25)).alloc (.cells #[.int .i64 lim, .slice none 0 0, .slice none 0 0] 25) = V at *
  go_loopw [6, 7, 8, 9, 10] (fun ii _ _ _ _ wr => ∃ (k : Nat) (x' : BX), k ≤ n + 1 ∧ ii = .int .i64 ((k : Int) - 1) ∧ KSt wr (w.heap.size + 1) (w.heap.size + 1 + 1) (w.heap.size + 1) x' (stB P lim mem runs k) ∧ (k = 0 → x' = zeroX3 ∧ wr.frozen? ⟨w.heap.size + 1 + 1, 1, none⟩ = false) ∧ Below (w.heap.size + 1) V wr) (fun ii _ _ _ _ _ => n + 1 - (intOf ii + 1).toNat)
  case atStart => exact ⟨0, zeroX3, Nat.zero_le _, rfl, HK0.out, fun _ => ⟨rfl, kf⟩, Below.refl _ _⟩
  case round =>
    obtain ⟨k, x', hk, rfl, hst, hz0, hnx⟩ := hrel
    have HST : Hid (KSt wr (w.heap.size + 1) (w.heap.size + 1 + 1) (w.heap.size + 1) x' (stB P lim mem runs k)) := hst
    have HZ0 : Hid (k = 0 → x' = zeroX3 ∧ wr.frozen? ⟨w.heap.size + 1 + 1, 1, none⟩ = false) := hz0
    have hbo : Below w.heap.size w wr := hb0.trans (hnx.mono (by omega))
    have c0 := (hnx.cell (p := ⟨w.heap.size, 0, none⟩) (by dsimp only; omega)).trans k0
    have c1 := (hnx.cell (p := ⟨w.heap.size, 1, none⟩) (by dsimp only; omega)).trans k1
    have c2 := (hnx.cell (p := ⟨w.heap.size, 2, none⟩) (by dsimp only; omega)).trans k2
    have lw : w.heap.size < wr.heap.size := World.block_lt_of_cell? _ _ c0
    clear hst hz0
    by_cases hlt : k < n + 1
    · have hkp : k < PB.length := by rw [HPN.out]; exact hlt
      cases k with
      | zero =>
        have HPK := HP.out 0 hkp
        have HLK := HLL.out 0 hkp
        have HROK : Hid (∀ j, j < (PB.getD 0 default).length → ((PB.getD 0 default).getD j default).row.length ≤ 2000000) := fun j hj => HROW.out 0 j hkp hj
        have HWK : Hid (∀ j e w1, j < (PB.getD 0 default).length → ER w1 e ((PB.getD 0 default).getD j default) → Below w.heap.size w w1 → Calls Try.prog fn (#[e.val] ++ caps) w1 fun r w' => r = .returned (.bool (P ((PB.getD 0 default).getD j default))) ∧ Below w1.heap.size w1 w') := fun j e w1 hj he hb => HW.out 0 j e w1 hkp hj he hb
        obtain ⟨PT, hPT⟩ : ∃ z, PB.getD 0 default = z := ⟨_, rfl⟩
        have HPT : Hid (PT = mem) := by show PT = mem; rw [← hPT]; exact HPM.out.1
        rw [hPT] at HPK HLK HROK HWK
        obtain ⟨pl, hpl⟩ : ∃ z, PT.length = z := ⟨_, rfl⟩
        have HPL : Hid (PT.length = pl) := hpl
        have hm2 : pl = m2 := by rw [← hpl, ← HPK.1]; rfl
        have HEM : Hid (emsAt w m1 ml) := HPK.2.1
        have HER : Hid (ERs w ml PT) := HPK.2.2
        obtain ⟨pt, hpt⟩ : ∃ z, ml = z := ⟨_, rfl⟩
        rw [hpt] at HEM HER
        rw [hpl] at HLK
        subst hm2
        clear HPK hpl hpt hPT
        go_wp2
        generalize wr = WO at *
        go_loopw [8, 9, 10] (fun o jj _ wq => ∃ (j : Nat) (hh : Hdr) (es : List EM), o = hdV hh ∧ jj = .int .i64 j ∧ j ≤ pl ∧ OE wq WO.heap.size (hdV hh) es ((PT.take j).filter P) ∧ Below WO.heap.size WO wq) (fun _ jj _ _ => pl - (intOf jj).toNat)
        case atStart => exact ⟨0, (none, 0, 0), [], rfl, rfl, Nat.zero_le _, OE_nil (Nat.le_refl _), Below.refl _ _⟩
        case round =>
          obtain ⟨j, ⟨p1, p2, p3⟩, es', rfl, rfl, hj, hoe, hny⟩ := hrel
          have HOE : Hid (OE wr WO.heap.size (hdV (p1, p2, p3)) es' ((PT.take j).filter P)) := hoe
          have hp2 : es'.length = p2 := by
            obtain ⟨ad, cp, e⟩ := hoe.form
            unfold hdV at e
            cases e; rfl
          have HEN : Hid (es'.length = p2) := hp2
          have hel : p2 ≤ 100000 := by
            have h1 := hoe.len
            have h2 := List.length_filter_le P (PT.take j)
            rw [List.length_take, HPL.out] at h2
            omega
          have hbr : Below w.heap.size w wr := hbo.trans (hny.mono hbo.size)
          have hsz := hny.size
          have e0 := cell_later hny c0
          have e1 := cell_later hny c1
          have e2 := cell_later hny c2
          have lw : w.heap.size < wr.heap.size := World.block_lt_of_cell? _ _ e0
          clear hoe hp2
          unfold hdV
          dsimp only
          by_cases hjl : j < pl
          · have hjl2 : j < PT.length := by rw [HPL.out]; exact hjl
            obtain ⟨b1, o1, ee, x1, x2, x3, x4, x5⟩ := HEM.out j (by rw [HER.out.1, HPL.out]; exact hjl)
            subst ee
            have z1 := cell_later hbr x1
            have z2 := cell_later hbr x2
            have z3 := cell_later hbr x3
            have z4 := cell_later hbr x4
            have z5 := cell_later hbr x5
            have her := HER.out.2 j hjl2
            have HEE : Hid (ER w (pt.getD j default) (PT.getD j default)) := her
            have KK : Hid (Calls Try.prog fn (#[(pt.getD j default).val] ++ caps) wr fun r w' => r = .returned (.bool (P (PT.getD j default))) ∧ Below wr.heap.size wr w') := HWK.out j _ wr hjl2 (her.below hbr) hbr
            have KCP : Hid (∀ w1, Below w.heap.size w w1 → Calls Try.prog 71 #[hdV (pt.getD j default).row] w1 fun r w' => (∃ ad' c', r = .returned (.slice ad' (PT.getD j default).row.length c') ∧ ownV w' w1.heap.size (.slice ad' (PT.getD j default).row.length c') (PT.getD j default).row) ∧ Below w1.heap.size w1 w') := fun w1 hb => by
              have k := rcopy_any (pt.getD j default).row.1 (pt.getD j default).row.2.2 (PT.getD j default).row w1 (her.below hb).row (HROK.out j hjl2)
              unfold hdV
              rw [her.len]
              exact k
            have HF : Hid ((PT.take (j + 1)).filter P = (PT.take j).filter P ++ (if P (PT.getD j default) = true then [PT.getD j default] else [])) := filter_succ hjl2
            obtain ⟨xx, hxx⟩ : ∃ z, PT.getD j default = z := ⟨_, rfl⟩
            rw [hxx] at KK KCP HF HEE
            obtain ⟨⟨ek, et, es1, ⟨r1, r2, r3⟩, em⟩, hz⟩ : ∃ z, pt.getD j default = z := ⟨_, rfl⟩
            rw [hz] at z1 z2 z3 z4 z5 KK KCP HEE
            unfold EM.val hdV at KK
            unfold hdV at z4 KCP
            dsimp only at z1 z2 z3 z4 z5 KK KCP
            obtain ⟨rl, hrl⟩ : ∃ z, xx.row.length = z := ⟨_, rfl⟩
            have HRL : Hid (xx.row.length = rl) := hrl
            rw [hrl] at KCP
            have i1 : (0 : Int) ≤ (j : Int) := by omega
            have i2 : (j : Int) < (pl : Int) := by omega
            have lb1 : b1 < wr.heap.size := World.block_lt_of_cell? _ _ z1
            clear hz hxx her hrl x1 x2 x3 x4 x5
            cases hp : P xx with
            | false =>
              rw [hp] at KK HF
              go_wp2_with (go_at_fn fn; refine KK.out.mono ?_; rintro e6 w1 ⟨rfl, hb1⟩)
              go_roundw
              case rel => exact ⟨j + 1, (p1, p2, p3), es', rfl, by go_num, by omega, by rw [HF.out, if_neg Bool.false_ne_true, List.append_nil]; exact HOE.out.below hb1, hny.trans (hb1.mono hsz)⟩
              case measure => simp [intOf] <;> omega
            | true =>
              rw [hp] at KK HF
              go_wp2_with (first
                | (go_at_fn fn; refine KK.out.mono ?_; rintro e6 w1 ⟨rfl, hb1⟩; have y1 := cell_later hb1 z1; have y2 := cell_later hb1 z2; have y3 := cell_later hb1 z3; have y4 := cell_later hb1 z4; have y5 := cell_later hb1 z5; have lb2 : b1 < w1.heap.size := World.block_lt_of_cell? _ _ y1; have hbA : Below wr.heap.size wr (w1.alloc (.cells #[.string ek, .int .i64 et, .int .i64 es1, .slice r1 r2 r3, .bool em] 28)) := hb1.alloc hb1.size _)
                | (go_at_call 71; refine (KCP.out _ (hbr.trans (hbA.mono hbr.size))).mono ?_; rintro e6 w2 ⟨⟨ad2, c3, rfl, hov⟩, hb2⟩; have v0 : w2.cell? ⟨w1.heap.size, 0, none⟩ = some (.string ek) := cell_later hb2 (by go_simp); have v1 : w2.cell? ⟨w1.heap.size, 1, none⟩ = some (.int .i64 et) := cell_later hb2 (by go_simp); have v2 : w2.cell? ⟨w1.heap.size, 2, none⟩ = some (.int .i64 es1) := cell_later hb2 (by go_simp); have v3 : w2.cell? ⟨w1.heap.size, 3, none⟩ = some (.slice r1 r2 r3) := cell_later hb2 (by go_simp); have v4 : w2.cell? ⟨w1.heap.size, 4, none⟩ = some (.bool em) := cell_later hb2 (by go_simp); have vf : w2.frozen? ⟨w1.heap.size, 3, none⟩ = false := (hb2.frozen (p := ⟨w1.heap.size, 3, none⟩) (by simp)).trans (by go_simp); have hb12 : Below wr.heap.size wr (w2.setCell ⟨w1.heap.size, 3, none⟩ (.slice ad2 rl c3)) := (hbA.trans (hb2.mono hbA.size)).setCell hb1.size _; have HOV : Hid (ownV (w2.setCell ⟨w1.heap.size, 3, none⟩ (.slice ad2 rl c3)) wr.heap.size (.slice ad2 rl c3) xx.row) := copy_kept hov hb1.size (by simp) ; have HO2 : Hid ((w2.setCell ⟨w1.heap.size, 3, none⟩ (.slice ad2 rl c3)).ownsRow WO.heap.size 28 5 (.slice p1 p2 p3) p2 (entCells es')) := (by have h := own_below HOE.out.own hb12; rw [HEN.out] at h; exact h); have hs2 : WO.heap.size ≤ w2.heap.size := Nat.le_trans hsz (Nat.le_trans hbA.size hb2.size))
                | (at_builtin; refine wpList_append_own _ rfl (.tmp 50) (.tmp 52) 22 rfl WO.heap.size 28 iE (.agg #[.string ⟨#[]⟩, .int .i64 0, .int .i64 0, .slice none 0 0, .bool false]) 5 64 Try.underlying22 HJ.out.1 HJ.out.2.1 HJ.out.2.2.1 HJ.out.2.2.2 rfl (by decide) _ _ _ rfl (World.ownsRow.alloc HO2.out _) ⟨w2.heap.size, 0, none⟩ 1 1 [.string ek, .int .i64 et, .int .i64 es1, .slice ad2 rl c3, .bool em] rfl rfl (five_new (by simp [World.setCell]) ek et es1 (ad2, rl, c3) em) (by intro u hu; simp at hu; rcases hu with rfl | rfl | rfl | rfl | rfl <;> rfl) (by unfold maxLen; omega) (by omega) (by simp; omega) ?_; intro v9 w3 hown3 hgrow3 hnil3))
              obtain ⟨g3, c4, hv3⟩ := own_some hown3
              subst hv3
              have HSN := OE_snoc (e := ⟨ek, et, es1, (ad2, rl, c3), em⟩) (x := xx) (g := g3) (cap2 := c4) HOE.out hb12 ⟨HEE.out.key, HEE.out.time, HEE.out.seq, HEE.out.met, HRL.out.symm, own_mono HOV.out hsz⟩ (by rw [HEN.out]; exact hown3) hgrow3
              rw [HEN.out] at HSN
              go_roundw
              case rel => exact ⟨j + 1, (some ⟨g3, 0, none⟩, p2 + 1, c4), _, rfl, by go_num, by omega, by rw [HF.out, if_pos (by trivial)]; exact HSN.1, hny.trans HSN.2⟩
              case measure => simp [intOf] <;> omega
          · have hje : pl = j := by omega
            have HTK : Hid ((PT.take j).filter P = PT.filter P) := by show _ = _; rw [List.take_of_length_le (by rw [HPL.out]; omega)]
            have HOF : Hid (OE wr WO.heap.size (hdV (p1, p2, p3)) es' (PT.filter P)) := by rw [← HTK.out]; exact HOE.out
            clear hje
            have hjn : ¬ ((j : Int) < (pl : Int)) := by omega
            obtain ⟨hxz, hfz⟩ := HZ0.out (by trivial)
            subst hxz
            have hst := HST.out
            have hst2 : KSt WO (w.heap.size + 1) (w.heap.size + 1 + 1) (w.heap.size + 1) zeroX3 ⟨lim, [], []⟩ := hst
            have hs1 := hst2.below hny
            have q1 := hs1.c1
            unfold zeroX3 hdV at q1
            dsimp only at q1
            have lN : w.heap.size + 1 + 1 < WO.heap.size := tyAt_lt hst2.ty
            have qf : wr.frozen? ⟨w.heap.size + 1 + 1, 1, none⟩ = false := (hny.frozen (p := ⟨w.heap.size + 1 + 1, 1, none⟩) lN).trans hfz
            have HSC : Hid _ := startC hst2 hfz hny HOF.out
            clear hst hst2 hs1
            go_wp2
            go_roundw
            case rel => exact ⟨1, _, by omega, by go_num, by rw [← HPT.out]; exact HSC.out.1, (fun h => by cases h), hnx.trans HSC.out.2⟩
            case measure => simp [intOf] <;> omega
      | succ k =>
        obtain ⟨b2, o4, e4, x4⟩ := HD.out k (by rw [List.length_map, HN.out.1]; omega)
        subst e4
        have z0 := cell_later hbo x4
        have ee1 : (rs.map (·.1)).getD k (none, 0, 0) = (rs.getD k default).1 := by rw [List.getD_eq_getElem?_getD, List.getElem?_map, List.getElem?_eq_getElem (by rw [HN.out.1]; omega), List.getD_eq_getElem?_getD, List.getElem?_eq_getElem (by rw [HN.out.1]; omega)]; rfl
        rw [ee1] at z0
        have HPK : (rs.getD k default).1.2.1 = (PB.getD (k + 1) default).length ∧ emsAt w (rs.getD k default).1.1 (rs.getD k default).2 ∧ ERs w (rs.getD k default).2 (PB.getD (k + 1) default) := HP.out (k + 1) hkp
        have HLK := HLL.out (k + 1) hkp
        have HROK : Hid (∀ j, j < (PB.getD (k + 1) default).length → ((PB.getD (k + 1) default).getD j default).row.length ≤ 2000000) := fun j hj => HROW.out (k + 1) j hkp hj
        have HWK : Hid (∀ j e w1, j < (PB.getD (k + 1) default).length → ER w1 e ((PB.getD (k + 1) default).getD j default) → Below w.heap.size w w1 → Calls Try.prog fn (#[e.val] ++ caps) w1 fun r w' => r = .returned (.bool (P ((PB.getD (k + 1) default).getD j default))) ∧ Below w1.heap.size w1 w') := fun j e w1 hj he hb => HW.out (k + 1) j e w1 hkp hj he hb
        obtain ⟨PT, hPT⟩ : ∃ z, PB.getD (k + 1) default = z := ⟨_, rfl⟩
        have HPT : Hid (runs.getD k default = PT) := by show _ = PT; rw [← hPT]; exact (HPM.out.2 k).symm
        rw [hPT] at HPK HLK HROK HWK
        obtain ⟨⟨⟨m4, m5, m6⟩, pt⟩, hz⟩ : ∃ z, rs.getD k default = z := ⟨_, rfl⟩
        rw [hz] at z0 HPK
        unfold hdV at z0
        dsimp only at z0 HPK
        obtain ⟨pl, hpl⟩ : ∃ z, PT.length = z := ⟨_, rfl⟩
        have HPL : Hid (PT.length = pl) := hpl
        have hm2 : pl = m5 := by rw [← hpl, ← HPK.1]
        have HEM : Hid (emsAt w m4 pt) := HPK.2.1
        have HER : Hid (ERs w pt PT) := HPK.2.2
        rw [hpl] at HLK
        subst hm2
        have hsm : ((k + 1 : Nat) : Int) - 1 = (k : Int) := by omega
        have i3 : (0 : Int) ≤ (k : Int) := by omega
        have i4 : (k : Int) < (n : Int) := by omega
        have i5 : ¬ ((k : Int) < 0) := by omega
        clear HPK hpl hz ee1 x4 hPT
        rw [hsm]
        clear hsm
        go_wp2
        generalize wr = WO at *
        go_loopw [8, 9, 10] (fun o jj _ wq => ∃ (j : Nat) (hh : Hdr) (es : List EM), o = hdV hh ∧ jj = .int .i64 j ∧ j ≤ pl ∧ OE wq WO.heap.size (hdV hh) es ((PT.take j).filter P) ∧ Below WO.heap.size WO wq) (fun _ jj _ _ => pl - (intOf jj).toNat)
        case atStart => exact ⟨0, (none, 0, 0), [], rfl, rfl, Nat.zero_le _, OE_nil (Nat.le_refl _), Below.refl _ _⟩
        case round =>
          obtain ⟨j, ⟨p1, p2, p3⟩, es', rfl, rfl, hj, hoe, hny⟩ := hrel
          have HOE : Hid (OE wr WO.heap.size (hdV (p1, p2, p3)) es' ((PT.take j).filter P)) := hoe
          have hp2 : es'.length = p2 := by
            obtain ⟨ad, cp, e⟩ := hoe.form
            unfold hdV at e
            cases e; rfl
          have HEN : Hid (es'.length = p2) := hp2
          have hel : p2 ≤ 100000 := by
            have h1 := hoe.len
            have h2 := List.length_filter_le P (PT.take j)
            rw [List.length_take, HPL.out] at h2
            omega
          have hbr : Below w.heap.size w wr := hbo.trans (hny.mono hbo.size)
          have hsz := hny.size
          have e0 := cell_later hny c0
          have e1 := cell_later hny c1
          have e2 := cell_later hny c2
          have lw : w.heap.size < wr.heap.size := World.block_lt_of_cell? _ _ e0
          clear hoe hp2
          unfold hdV
          dsimp only
          by_cases hjl : j < pl
          · have hjl2 : j < PT.length := by rw [HPL.out]; exact hjl
            obtain ⟨b1, o1, ee, x1, x2, x3, x4, x5⟩ := HEM.out j (by rw [HER.out.1, HPL.out]; exact hjl)
            subst ee
            have z1 := cell_later hbr x1
            have z2 := cell_later hbr x2
            have z3 := cell_later hbr x3
            have z4 := cell_later hbr x4
            have z5 := cell_later hbr x5
            have her := HER.out.2 j hjl2
            have HEE : Hid (ER w (pt.getD j default) (PT.getD j default)) := her
            have KK : Hid (Calls Try.prog fn (#[(pt.getD j default).val] ++ caps) wr fun r w' => r = .returned (.bool (P (PT.getD j default))) ∧ Below wr.heap.size wr w') := HWK.out j _ wr hjl2 (her.below hbr) hbr
            have KCP : Hid (∀ w1, Below w.heap.size w w1 → Calls Try.prog 71 #[hdV (pt.getD j default).row] w1 fun r w' => (∃ ad' c', r = .returned (.slice ad' (PT.getD j default).row.length c') ∧ ownV w' w1.heap.size (.slice ad' (PT.getD j default).row.length c') (PT.getD j default).row) ∧ Below w1.heap.size w1 w') := fun w1 hb => by
              have k := rcopy_any (pt.getD j default).row.1 (pt.getD j default).row.2.2 (PT.getD j default).row w1 (her.below hb).row (HROK.out j hjl2)
              unfold hdV
              rw [her.len]
              exact k
            have HF : Hid ((PT.take (j + 1)).filter P = (PT.take j).filter P ++ (if P (PT.getD j default) = true then [PT.getD j default] else [])) := filter_succ hjl2
            obtain ⟨xx, hxx⟩ : ∃ z, PT.getD j default = z := ⟨_, rfl⟩
            rw [hxx] at KK KCP HF HEE
            obtain ⟨⟨ek, et, es1, ⟨r1, r2, r3⟩, em⟩, hz⟩ : ∃ z, pt.getD j default = z := ⟨_, rfl⟩
            rw [hz] at z1 z2 z3 z4 z5 KK KCP HEE
            unfold EM.val hdV at KK
            unfold hdV at z4 KCP
            dsimp only at z1 z2 z3 z4 z5 KK KCP
            obtain ⟨rl, hrl⟩ : ∃ z, xx.row.length = z := ⟨_, rfl⟩
            have HRL : Hid (xx.row.length = rl) := hrl
            rw [hrl] at KCP
            have i1 : (0 : Int) ≤ (j : Int) := by omega
            have i2 : (j : Int) < (pl : Int) := by omega
            have lb1 : b1 < wr.heap.size := World.block_lt_of_cell? _ _ z1
            clear hz hxx her hrl x1 x2 x3 x4 x5
            cases hp : P xx with
            | false =>
              rw [hp] at KK HF
              go_wp2_with (go_at_fn fn; refine KK.out.mono ?_; rintro e6 w1 ⟨rfl, hb1⟩)
              go_roundw
              case rel => exact ⟨j + 1, (p1, p2, p3), es', rfl, by go_num, by omega, by rw [HF.out, if_neg Bool.false_ne_true, List.append_nil]; exact HOE.out.below hb1, hny.trans (hb1.mono hsz)⟩
              case measure => simp [intOf] <;> omega
            | true =>
              rw [hp] at KK HF
              go_wp2_with (first
                | (go_at_fn fn; refine KK.out.mono ?_; rintro e6 w1 ⟨rfl, hb1⟩; have y1 := cell_later hb1 z1; have y2 := cell_later hb1 z2; have y3 := cell_later hb1 z3; have y4 := cell_later hb1 z4; have y5 := cell_later hb1 z5; have lb2 : b1 < w1.heap.size := World.block_lt_of_cell? _ _ y1; have hbA : Below wr.heap.size wr (w1.alloc (.cells #[.string ek, .int .i64 et, .int .i64 es1, .slice r1 r2 r3, .bool em] 28)) := hb1.alloc hb1.size _)
                | (go_at_call 71; refine (KCP.out _ (hbr.trans (hbA.mono hbr.size))).mono ?_; rintro e6 w2 ⟨⟨ad2, c3, rfl, hov⟩, hb2⟩; have v0 : w2.cell? ⟨w1.heap.size, 0, none⟩ = some (.string ek) := cell_later hb2 (by go_simp); have v1 : w2.cell? ⟨w1.heap.size, 1, none⟩ = some (.int .i64 et) := cell_later hb2 (by go_simp); have v2 : w2.cell? ⟨w1.heap.size, 2, none⟩ = some (.int .i64 es1) := cell_later hb2 (by go_simp); have v3 : w2.cell? ⟨w1.heap.size, 3, none⟩ = some (.slice r1 r2 r3) := cell_later hb2 (by go_simp); have v4 : w2.cell? ⟨w1.heap.size, 4, none⟩ = some (.bool em) := cell_later hb2 (by go_simp); have vf : w2.frozen? ⟨w1.heap.size, 3, none⟩ = false := (hb2.frozen (p := ⟨w1.heap.size, 3, none⟩) (by simp)).trans (by go_simp); have hb12 : Below wr.heap.size wr (w2.setCell ⟨w1.heap.size, 3, none⟩ (.slice ad2 rl c3)) := (hbA.trans (hb2.mono hbA.size)).setCell hb1.size _; have HOV : Hid (ownV (w2.setCell ⟨w1.heap.size, 3, none⟩ (.slice ad2 rl c3)) wr.heap.size (.slice ad2 rl c3) xx.row) := copy_kept hov hb1.size (by simp) ; have HO2 : Hid ((w2.setCell ⟨w1.heap.size, 3, none⟩ (.slice ad2 rl c3)).ownsRow WO.heap.size 28 5 (.slice p1 p2 p3) p2 (entCells es')) := (by have h := own_below HOE.out.own hb12; rw [HEN.out] at h; exact h); have hs2 : WO.heap.size ≤ w2.heap.size := Nat.le_trans hsz (Nat.le_trans hbA.size hb2.size))
                | (at_builtin; refine wpList_append_own _ rfl (.tmp 50) (.tmp 52) 22 rfl WO.heap.size 28 iE (.agg #[.string ⟨#[]⟩, .int .i64 0, .int .i64 0, .slice none 0 0, .bool false]) 5 64 Try.underlying22 HJ.out.1 HJ.out.2.1 HJ.out.2.2.1 HJ.out.2.2.2 rfl (by decide) _ _ _ rfl (World.ownsRow.alloc HO2.out _) ⟨w2.heap.size, 0, none⟩ 1 1 [.string ek, .int .i64 et, .int .i64 es1, .slice ad2 rl c3, .bool em] rfl rfl (five_new (by simp [World.setCell]) ek et es1 (ad2, rl, c3) em) (by intro u hu; simp at hu; rcases hu with rfl | rfl | rfl | rfl | rfl <;> rfl) (by unfold maxLen; omega) (by omega) (by simp; omega) ?_; intro v9 w3 hown3 hgrow3 hnil3))
              obtain ⟨g3, c4, hv3⟩ := own_some hown3
              subst hv3
              have HSN := OE_snoc (e := ⟨ek, et, es1, (ad2, rl, c3), em⟩) (x := xx) (g := g3) (cap2 := c4) HOE.out hb12 ⟨HEE.out.key, HEE.out.time, HEE.out.seq, HEE.out.met, HRL.out.symm, own_mono HOV.out hsz⟩ (by rw [HEN.out]; exact hown3) hgrow3
              rw [HEN.out] at HSN
              go_roundw
              case rel => exact ⟨j + 1, (some ⟨g3, 0, none⟩, p2 + 1, c4), _, rfl, by go_num, by omega, by rw [HF.out, if_pos (by trivial)]; exact HSN.1, hny.trans HSN.2⟩
              case measure => simp [intOf] <;> omega
          · have hje : pl = j := by omega
            have HTK : Hid ((PT.take j).filter P = PT.filter P) := by show _ = _; rw [List.take_of_length_le (by rw [HPL.out]; omega)]
            have HOF : Hid (OE wr WO.heap.size (hdV (p1, p2, p3)) es' (PT.filter P)) := by rw [← HTK.out]; exact HOE.out
            clear hje
            have hjn : ¬ ((j : Int) < (pl : Int)) := by omega
            have hst := HST.out.below hny
            have hrl := HST.out.ob.rlen
            have hrn : x'.rs.length ≤ 100000 := by
              have h1 := keptR_len P (runs.take k)
              rw [List.length_take] at h1
              unfold stB at hrl
              dsimp only at hrl
              rw [hrl]
              simp only [Nat.add_sub_cancel]
              omega
            have q2 := hst.c2
            have qf := hst.f2
            have HOH : Hid (wr.ownsRow (w.heap.size + 1) 22 1 (.slice x'.ra x'.rs.length x'.rc) x'.rs.length (x'.rs.map fun p => hdV p.1)) := hst.ob.hds
            have hlow : w.heap.size + 1 ≤ wr.heap.size := hst.ob.low
            have HKS : Hid (keptR P (runs.take (k + 1)) = keptR P (runs.take k) ++ (if 0 < (PT.filter P).length then [PT.filter P] else [])) := by
              show _ = _
              rw [keptR_succ (by rw [HN.out.2]; omega), HPT.out]
            have hpl2 : p2 = (PT.filter P).length := by rw [← HEN.out]; exact HOF.out.len
            have lN : w.heap.size + 1 + 1 < wr.heap.size := tyAt_lt hst.ty
            clear hst hrl
            by_cases hp0 : 0 < p2
            · have HE : Hid (stB P lim mem runs (k + 1 + 1) = (stB P lim mem runs (k + 1)).more (PT.filter P)) := by
                have e1 : keptR P (runs.take (k + 1)) = keptR P (runs.take k) ++ [PT.filter P] := by rw [HKS.out, if_pos (by rw [← hpl2]; exact hp0)]
                show _ = _
                simp [stB, Buf.more, e1]
              obtain ⟨rn, hrn0⟩ : ∃ z, x'.rs.length = z := ⟨_, rfl⟩
              have HRN : Hid (x'.rs.length = rn) := hrn0
              obtain ⟨ra', rc', xm', rs'⟩ := x'
              dsimp only at hrn0 HRN q2 HOH hrn
              rw [hrn0] at q2 HOH hrn
              clear hrn0 hpl2
              go_wp2_with (at_builtin; refine wpList_append_own _ rfl (.tmp 62) (.tmp 64) 23 rfl (w.heap.size + 1) 22 i0 (.slice none 0 0) 1 24 Try.underlying23 HI.out.1 HI.out.2.1 HI.out.2.2.1 HI.out.2.2.2 rfl (by decide) _ _ _ rfl (World.ownsRow.alloc HOH.out _) ⟨wr.heap.size, 0, none⟩ 1 1 [.slice p1 p2 p3] rfl rfl (cell_one_new _ _ rfl _) (by intro u hu; simp at hu; rcases hu with rfl; rfl) (by unfold maxLen; omega) (by omega) (by simp; omega) ?_; intro v3 w3 hown3 hgrow3 hnil3; have hmid := KSt_mid HST.out hny (by dsimp only; rw [HRN.out]; exact hgrow3); dsimp only at hmid; rw [HRN.out] at hmid; obtain ⟨t2, tf⟩ := hmid; obtain ⟨g3, c3, hv3⟩ := own_some hown3; subst hv3)
              have HSN := KSt_snoc (g := g3) (cap2 := c3) (p := ((p1, p2, p3), es')) (l := PT.filter P) HST.out hny HOF.out (by dsimp only; rw [HRN.out]; exact hown3) (by dsimp only; rw [HRN.out]; exact hgrow3)
              rw [← HE.out] at HSN
              dsimp only at HSN
              rw [HRN.out] at HSN
              go_roundw
              case rel => exact ⟨k + 1 + 1, _, by omega, (by first | go_num | (congr 1; omega)), HSN.1, (fun h => by cases h), hnx.trans HSN.2⟩
              case measure => simp [intOf] <;> omega
            · have HE : Hid (stB P lim mem runs (k + 1 + 1) = stB P lim mem runs (k + 1)) := by
                have e1 : keptR P (runs.take (k + 1)) = keptR P (runs.take k) := by rw [HKS.out, if_neg (by rw [← hpl2]; exact hp0), List.append_nil]
                show _ = _
                simp [stB, e1]
              clear hpl2
              go_wp2
              go_roundw
              case rel => exact ⟨k + 1 + 1, x', by omega, (by first | go_num | (congr 1; omega)), by rw [HE.out]; exact HST.out.below hny, (fun h => by cases h), hnx.trans (hny.mono (by omega))⟩
              case measure => simp [intOf] <;> omega
    · have hke : k = n + 1 := by omega
      subst hke
      have hst := HST.out
      have HEB : Hid (stB P lim mem runs (n + 1) = keptB P ⟨lim, mem, runs⟩) := by
        show _ = _
        unfold stB keptB
        rw [Nat.add_sub_cancel, List.take_of_length_le (by rw [HN.out.2]; exact Nat.le_refl _)]
        rfl
      rw [HEB.out] at hst HST
      have d0 := hst.c0
      have d1 := hst.c1
      have d2 := hst.c2
      have r0 := hst.r0
      have r1 := hst.r1
      have r2 := hst.r2
      have g0 := hst.g0
      have g1 := hst.g1
      have g2 := hst.g2
      have lC : w.heap.size + 1 < wr.heap.size := tyAt_lt hst.rt
      have lN : w.heap.size + 1 + 1 < wr.heap.size := tyAt_lt hst.ty
      obtain ⟨ra', rc', ⟨⟨a1, a2, a3⟩, ml'⟩, rs'⟩ := x'
      unfold hdV at d1
      unfold keptB at d0
      dsimp only at d0 d1 d2
      obtain ⟨rn, hrn0⟩ : ∃ z, rs'.length = z := ⟨_, rfl⟩
      have HRN : Hid (rs'.length = rn) := hrn0
      rw [hrn0] at d2
      have hsm : ((n + 1 : Nat) : Int) - 1 = (n : Int) := by omega
      have hno : ¬ ((n : Int) < (n : Int)) := by omega
      rw [hsm]
      clear hsm hrn0 hst
      go_wp2
      refine bodyPost_ret (v := .agg #[.int .i64 lim, .slice a1 a2 a3, .slice ra' rn rc']) (by simp [results, Try.results43, go_sem, r0, r1, r2, d0, d1, d2]) rfl ⟨⟨⟨ra', rc', ((a1, a2, a3), ml'), rs'⟩, ?_, ?_⟩, ?_⟩
      · unfold keptB
        dsimp only
        rw [HRN.out]
      · exact OB_mono (OB_set3 HST.out.ob HST.out.rt _ _ _) (by omega)
      · exact ((hbo.setCell (by dsimp only; omega) _).setCell (by dsimp only; omega) _).setCell (by dsimp only; omega) _
end Go.Proofs.Ytnfknkihiapgiaa.bf
