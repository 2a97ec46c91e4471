/- Several texts in one: BufRTell, BufRScan. -/
import Derived.Test.YtnfknkihiapgiaaFsA
/- The document's AllIn, There, DropIn and PackIn, of a right buffer. -/
namespace Go.Proofs.Ytnfknkihiapgiaa.bf
open Go.ChangeShapes Go.WideShapes Go.ChangeAt Go.RowKit
open vl
set_option linter.unusedVariables false
set_option linter.unusedSimpArgs false
attribute [local go_sem] Oper.semAt_some
theorem okB.ents {b : Buf} (ok : okB b) {l : List Ent} {f : Bool} (h : ES (entsB b) l f) : f = true ∧ l.Perm (entsB b) ∧ Rise l := by
  have hf := h.fine.2 ok.once
  exact ⟨hf, h.perm hf, h.rise⟩
theorem okB.size {b : Buf} (ok : okB b) : (entsB b).length ≤ 100000 ∧ ∀ y ∈ entsB b, y.row.length ≤ 2000000 :=
  ⟨by have := ok.all; omega, fun y hy => by have := ok.small.2.2 y hy; omega⟩
theorem KSt_mid2 {W W1 W2 : World} {C NB base : Nat} {lim : Int} {o : Obj} (h : KSt W C NB base zeroX3 ⟨lim, [], []⟩) (hb1 : Below W.heap.size W W1) (hg2 : (W1.alloc o).grownBy W2 (Value.slice none 0 0).ownBlock) :
    W2.cell? ⟨NB, 0, none⟩ = some (.int .i64 lim) ∧ W2.cell? ⟨NB, 1, none⟩ = some (.slice none 0 0) ∧ W2.cell? ⟨NB, 2, none⟩ = some (.slice none 0 0) ∧ W2.frozen? ⟨NB, 2, none⟩ = false ∧ W2.cell? ⟨C, 0, none⟩ = some (.int .i64 0) ∧ W2.cell? ⟨C, 1, none⟩ = some (.slice none 0 0) ∧ W2.cell? ⟨C, 2, none⟩ = some (.slice none 0 0) ∧ W2.frozen? ⟨C, 0, none⟩ = false ∧ W2.frozen? ⟨C, 1, none⟩ = false ∧ W2.frozen? ⟨C, 2, none⟩ = false ∧ NB < W2.heap.size := by
  have h1 := h.below hb1
  have hlt := tyAt_lt h1.ty
  have hltC := tyAt_lt h1.rt
  have hs2 : W1.heap.size ≤ W2.heap.size := by have := hg2.size; simp at this; omega
  have eq : ∀ c, c < W1.heap.size → W2.heap[c]? = W1.heap[c]? := fun c hc => by
    rw [hg2.block c (by simp; omega) (fun e => by cases e)]
    exact Below.heap_alloc _ _ c hc
  have eN := eq NB hlt
  have eC := eq C hltC
  exact ⟨(cell_blk eN 0).trans h1.c0, (cell_blk eN 1).trans h1.c1, (cell_blk eN 2).trans h1.c2, (frozen_blk eN 2).trans h1.f2, (cell_blk eC 0).trans h1.r0, (cell_blk eC 1).trans h1.r1, (cell_blk eC 2).trans h1.r2, (frozen_blk eC 0).trans h1.g0, (frozen_blk eC 1).trans h1.g1, (frozen_blk eC 2).trans h1.g2, by omega⟩
set_option maxHeartbeats 4000000 in
theorem allIn_ok (b : Buf) (x : BX) (w : World) (h : bufAt w b x) (ok : okB b) :
    Calls Try.prog 26 #[bufV b x] w fun e w' => (∃ (hh : Hdr) (es : List EM) (l : List Ent), e = .returned (hdV hh) ∧ OE w' w.heap.size (hdV hh) es l ∧ l.Perm (entsB b) ∧ Rise l) ∧ Below w.heap.size w w' := by
  have KE : Hid (∀ w1, Below w.heap.size w w1 → Calls Try.prog 41 #[bufV b x] w1 fun r w' => (∃ (hh : Hdr) (es : List EM) (l : List Ent) (f : Bool), r = .returned (.tuple #[hdV hh, .bool f]) ∧ OE w' w.heap.size (hdV hh) es l ∧ l.Perm (entsB b) ∧ Rise l) ∧ Below w1.heap.size w1 w') := fun w1 hb =>
    (entries_any b x w1 (bufAt_below h hb) ok.size.1 ok.size.2).mono (fun e w' ⟨⟨hh, es, l, f, he, hoe, hes⟩, hbb⟩ => ⟨⟨hh, es, l, f, he, hoe.mono (by have := hb.size; omega), (ok.ents hes).2⟩, hbb⟩)
  obtain ⟨L, hL⟩ : ∃ z, entsB b = z := ⟨_, rfl⟩
  rw [hL] at KE ⊢
  clear h ok hL
  obtain ⟨ra, rc, ⟨⟨m1, m2, m3⟩, ml⟩, rs⟩ := x
  obtain ⟨lim, mem, runs⟩ := b
  rw [show bufV ⟨lim, mem, runs⟩ ⟨ra, rc, ((m1, m2, m3), ml), rs⟩ = .agg #[.int .i64 lim, .slice m1 m2 m3, .slice ra rs.length rc] from rfl] at KE ⊢
  obtain ⟨n, hn⟩ : ∃ n, rs.length = n := ⟨_, rfl⟩
  rw [hn] at KE ⊢
  clear hn
  have hb0 : Below w.heap.size w (w.alloc (.cells #[.int .i64 lim, .slice m1 m2 m3, .slice ra n rc] 25)) := (Below.refl _ _).alloc (Nat.le_refl _) _
  go_enter Try.func26, Try.ntmps26
  go_wp2_with (go_at_call 41; refine (KE.out _ hb0).mono ?_; rintro e w2 ⟨⟨⟨q1, q2, q3⟩, es, l, f, rfl, hoe, hp, hri⟩, hb2⟩; unfold hdV at hoe ⊢; dsimp only at hoe ⊢)
  go_ret
  exact ⟨⟨(q1, q2, q3), es, l, rfl, hoe, hp, hri⟩, hb0.trans (hb2.mono hb0.size)⟩
theorem rdrop1_any (e : EM) (to : Int) (PB : Nat) (w : World) (hP : w.cell? ⟨PB, 0, none⟩ = some (.int .i64 to)) :
    Calls Try.prog 57 #[e.val, .pointer (some ⟨PB, 0, none⟩)] w fun r w' => r = .returned (.bool (decide (to < e.time))) ∧ Below w.heap.size w w' := by
  obtain ⟨k1, t1, s1, ⟨a1, b1, c1⟩, m1⟩ := e
  unfold EM.val hdV
  dsimp only
  have lP : PB < w.heap.size := World.block_lt_of_cell? _ _ hP
  by_cases hd : to < t1
  · have HD : Hid (decide (to < t1) = true) := decide_eq_true hd
    go_enter Try.func57, Try.ntmps57
    go_wp2
    go_ret
    exact ⟨ret_bool (by rw [HD.out]), (Below.refl _ _).alloc (Nat.le_refl _) _⟩
  · have HD : Hid (decide (to < t1) = false) := decide_eq_false hd
    go_enter Try.func57, Try.ntmps57
    go_wp2
    go_ret
    exact ⟨ret_bool (by rw [HD.out]), (Below.refl _ _).alloc (Nat.le_refl _) _⟩
set_option maxHeartbeats 4000000 in
theorem dropIn_ok (b : Buf) (x : BX) (to : Int) (w : World) (h : bufAt w b x) (ok : okB b) :
    Calls Try.prog 27 #[bufV b x, .int .i64 to] w fun e w' => (∃ x', e = .returned (bufV (keptB (afterT to) b) x') ∧ OB w' w.heap.size x' (keptB (afterT to) b)) ∧ Below w.heap.size w w' := by
  have hsm := ok.small
  have KE : Hid (∀ w1, Below w.heap.size w w1 → w1.cell? ⟨w.heap.size + 1, 0, none⟩ = some (.int .i64 to) → Calls Try.prog 43 #[bufV b x, .func (.func 57) #[] #[.pointer (some ⟨w.heap.size + 1, 0, none⟩)]] w1 fun e w' => (∃ x', e = .returned (bufV (keptB (afterT to) b) x') ∧ OB w' w1.heap.size x' (keptB (afterT to) b)) ∧ Below w1.heap.size w1 w') := fun w1 hb hc =>
    own_any 57 (enters_of Try.func57 (by kernel_rfl) rfl) #[.pointer (some ⟨w.heap.size + 1, 0, none⟩)] (afterT to) b x w1 (bufAt_below h hb) hsm.1 hsm.2.1 ok.size.2 (fun e y w2 her _ hb2 => by
      have := rdrop1_any e to (w.heap.size + 1) w2 (cell_later hb2 hc)
      rw [her.time] at this
      exact this)
  clear h hsm ok
  obtain ⟨lim', hlim⟩ : ∃ z, (keptB (afterT to) b) = z := ⟨_, rfl⟩
  rw [hlim] at KE ⊢
  clear hlim
  obtain ⟨ra, rc, ⟨⟨m1, m2, m3⟩, ml⟩, rs⟩ := x
  obtain ⟨lim, mem, runs⟩ := b
  rw [show bufV ⟨lim, mem, runs⟩ ⟨ra, rc, ((m1, m2, m3), ml), rs⟩ = .agg #[.int .i64 lim, .slice m1 m2 m3, .slice ra rs.length rc] from rfl] at KE ⊢
  obtain ⟨n, hn⟩ : ∃ n, rs.length = n := ⟨_, rfl⟩
  rw [hn] at KE ⊢
  clear hn
  have hb0 : Below w.heap.size w (((w.alloc (.cells #[.int .i64 lim, .slice m1 m2 m3, .slice ra n rc] 25)).alloc (.cells #[.int .i64 to] 3)).alloc (.cells #[.int .i64 0, .slice none 0 0, .slice none 0 0] 25)) := by
    repeat (first | exact Below.refl _ _ | (refine Below.alloc ?_ (by simp <;> omega) _))
  have NBV := nb_alloc ((w.alloc (.cells #[.int .i64 lim, .slice m1 m2 m3, .slice ra n rc] 25)).alloc (.cells #[.int .i64 to] 3))
  rw [World.size_alloc, World.size_alloc] at NBV
  have HNB : Hid (nbAt (((w.alloc (.cells #[.int .i64 lim, .slice m1 m2 m3, .slice ra n rc] 25)).alloc (.cells #[.int .i64 to] 3)).alloc (.cells #[.int .i64 0, .slice none 0 0, .slice none 0 0] 25)) (w.heap.size + 1 + 1)) := NBV
  clear NBV
  have k3 : (((w.alloc (.cells #[.int .i64 lim, .slice m1 m2 m3, .slice ra n rc] 25)).alloc (.cells #[.int .i64 to] 3)).alloc (.cells #[.int .i64 0, .slice none 0 0, .slice none 0 0] 25)).cell? ⟨w.heap.size + 1, 0, none⟩ = some (.int .i64 to) := by go_simp
  go_enter Try.func27, Try.ntmps27
  go_wp2_with (go_at_call 43; refine (KE.out _ hb0 k3).mono ?_; rintro e w3 ⟨⟨⟨ra', rc', ⟨⟨a1, a2, a3⟩, ml'⟩, rs'⟩, rfl, hob⟩, hb3⟩; rw [show bufV lim' ⟨ra', rc', ((a1, a2, a3), ml'), rs'⟩ = .agg #[.int .i64 lim'.lim, .slice a1 a2 a3, .slice ra' rs'.length rc'] from rfl]; have HNB3 : Hid (nbAt w3 (w.heap.size + 1 + 1)) := nb_below hb3 HNB.out; obtain ⟨n0, n1, n2, o0, o1, o2, n3⟩ := HNB3.out)
  have hbx : Below w.heap.size w w3 := hb0.trans (hb3.mono hb0.size)
  refine bodyPost_ret (v := .agg #[.int .i64 lim'.lim, .slice a1 a2 a3, .slice ra' rs'.length rc']) (by simp [results, Try.results27, go_sem, n0, n1, n2]) rfl ⟨⟨⟨ra', rc', ((a1, a2, a3), ml'), rs'⟩, rfl, ?_⟩, ((hbx.setCell (by dsimp only; omega) _).setCell (by dsimp only; omega) _).setCell (by dsimp only; omega) _⟩
  exact OB_set3 (OB_mono hob hb0.size) n3 _ _ _
set_option maxHeartbeats 4000000 in
theorem packIn_ok (b : Buf) (x : BX) (w : World) (h : bufAt w b x) (ok : okB b) :
    Calls Try.prog 28 #[bufV b x] w fun e w' => (∃ x' l', e = .returned (bufV (packB b.lim l') x') ∧ l'.Perm (entsB b) ∧ Rise l' ∧ OB w' w.heap.size x' (packB b.lim l')) ∧ Below w.heap.size w w' := by
  have KE : Hid (∀ w1, Below w.heap.size w w1 → Calls Try.prog 26 #[bufV b x] w1 fun e w' => (∃ (hh : Hdr) (es : List EM) (l : List Ent), e = .returned (hdV hh) ∧ OE w' w1.heap.size (hdV hh) es l ∧ l.Perm (entsB b) ∧ Rise l) ∧ Below w1.heap.size w1 w') := fun w1 hb => allIn_ok b x w1 (bufAt_below h hb) ok
  obtain ⟨L, hL⟩ : ∃ z, entsB b = z := ⟨_, rfl⟩
  rw [hL] at KE ⊢
  clear h ok hL
  obtain ⟨ra, rc, ⟨⟨m1, m2, m3⟩, ml⟩, rs⟩ := x
  obtain ⟨lim, mem, runs⟩ := b
  rw [show bufV ⟨lim, mem, runs⟩ ⟨ra, rc, ((m1, m2, m3), ml), rs⟩ = .agg #[.int .i64 lim, .slice m1 m2 m3, .slice ra rs.length rc] from rfl] at KE ⊢
  obtain ⟨n, hn⟩ : ∃ n, rs.length = n := ⟨_, rfl⟩
  rw [hn] at KE ⊢
  clear hn
  dsimp only
  have hb0 : Below w.heap.size w (((w.alloc (.cells #[.int .i64 lim, .slice m1 m2 m3, .slice ra n rc] 25)).alloc (.cells #[.int .i64 0, .slice none 0 0, .slice none 0 0] 25)).alloc (.cells #[.int .i64 lim, .slice none 0 0, .slice none 0 0] 25)) := by
    repeat (first | exact Below.refl _ _ | (refine Below.alloc ?_ (by simp <;> omega) _))
  have nb := nb_alloc (w.alloc (.cells #[.int .i64 lim, .slice m1 m2 m3, .slice ra n rc] 25))
  rw [World.size_alloc] at nb
  have HK0 : Hid (KSt (((w.alloc (.cells #[.int .i64 lim, .slice m1 m2 m3, .slice ra n rc] 25)).alloc (.cells #[.int .i64 0, .slice none 0 0, .slice none 0 0] 25)).alloc (.cells #[.int .i64 lim, .slice none 0 0, .slice none 0 0] 25)) (w.heap.size + 1) (w.heap.size + 1 + 1) w.heap.size zeroX3 ⟨lim, [], []⟩) := by
    have k := startA (base := w.heap.size) (base' := w.heap.size) (hh := (none, 0, 0)) (es := []) (l := []) (lim := lim) nb (OE_nil (by simp <;> omega)) (Nat.le_refl _) (Nat.le_succ _)
    rw [World.size_alloc, World.size_alloc] at k
    exact k
  have hVs : (((w.alloc (.cells #[.int .i64 lim, .slice m1 m2 m3, .slice ra n rc] 25)).alloc (.cells #[.int .i64 0, .slice none 0 0, .slice none 0 0] 25)).alloc (.cells #[.int .i64 lim, .slice none 0 0, .slice none 0 0] 25)).heap.size = w.heap.size + 1 + 1 + 1 := by simp
  obtain ⟨i0, hi0, hz0, hz1, hz2⟩ := info_parts infoH
  have HI : Hid (Try.prog.info? 22 = some i0 ∧ i0.zero = some (.slice none 0 0) ∧ i0.size = 1 ∧ i0.bytes = 24) := ⟨hi0, hz0, hz1, hz2⟩
  clear hi0 hz0 hz1 hz2 nb
  go_enter Try.func28, Try.ntmps28
  go_wp2_with fail
  refine (KE.out _ hb0).mono ?_
  rintro e w2 ⟨⟨⟨h1, h2, h3⟩, es', l', rfl, hoe, hp, hri⟩, hb2⟩
  generalize ((w.alloc (.cells #[.int .i64 lim, .slice m1 m2 m3, .slice ra n rc] 25)).alloc (.cells #[.int .i64 0, .slice none 0 0, .slice none 0 0] 25)).alloc (.cells #[.int .i64 lim, .slice none 0 0, .slice none 0 0] 25) = V at *
  have hbw : Below w.heap.size w w2 := hb0.trans (hb2.mono hb0.size)
  have hst := HK0.out.below hb2
  have HST : Hid (KSt w2 (w.heap.size + 1) (w.heap.size + 1 + 1) w.heap.size zeroX3 ⟨lim, [], []⟩) := hst
  have d0 := hst.c0
  have d1 := hst.c1
  have d2 := hst.c2
  have r0 := hst.r0
  have r1 := hst.r1
  have r2 := hst.r2
  have g0 := hst.g0
  have g1 := hst.g1
  have g2 := hst.g2
  have f2 := hst.f2
  have lC : w.heap.size + 1 < w2.heap.size := tyAt_lt hst.rt
  have lN : w.heap.size + 1 + 1 < w2.heap.size := tyAt_lt hst.ty
  unfold zeroX3 at d1 d2
  unfold hdV at d1
  dsimp only [List.length_nil] at d0 d1 d2
  have hl2 : h2 = l'.length := by
    obtain ⟨ad, cp, hf⟩ := hoe.form
    unfold hdV at hf
    injection hf with _ e2 _
    exact Eq.trans e2 hoe.len
  have HOE : Hid (OE w2 V.heap.size (hdV (h1, h2, h3)) es' l') := hoe
  have HL2 : Hid (h2 = l'.length) := hl2
  unfold hdV
  dsimp only
  clear hoe hl2 hst
  by_cases h0 : 0 < h2
  · have HPK : Hid (packB lim l' = (⟨lim, [], []⟩ : Buf).more l') := by
      show _ = _
      unfold packB Buf.more
      rw [if_pos (by rw [← HL2.out]; exact h0)]
      rfl
    have HOH : Hid (w2.ownsRow w.heap.size 22 1 (.slice none 0 0) 0 []) := HST.out.ob.hds
    have hlow : w.heap.size ≤ w2.heap.size := HST.out.ob.low
    go_wp2_with (at_builtin; refine wpList_append_own _ rfl (.tmp 14) (.tmp 16) 23 rfl w.heap.size 22 i0 (.slice none 0 0) 1 24 Try.underlying23 HI.out.1 HI.out.2.1 HI.out.2.2.1 HI.out.2.2.2 rfl (by decide) _ _ _ rfl (World.ownsRow.alloc HOH.out _) ⟨w2.heap.size, 0, none⟩ 1 1 [.slice h1 h2 h3] rfl rfl (cell_one_new _ _ rfl _) (by intro u hu; simp at hu; rcases hu with rfl; rfl) (by unfold maxLen; omega) (by omega) (by simp; omega) ?_; intro v3 w3 hown3 hgrow3 hnil3; have hmid := KSt_mid2 HST.out (Below.refl _ _) hgrow3; obtain ⟨t0, t1, t2, tf, s0, s1, s2, u0, u1, u2, lN3⟩ := hmid; obtain ⟨g3, c3, hv3⟩ := own_some hown3; subst hv3)
    have HSN := KSt_snoc (g := g3) (cap2 := c3) (p := ((h1, h2, h3), es')) (l := l') HK0.out hb2 HOE.out hown3 hgrow3
    have hbz : Below w.heap.size w (w3.setCell ⟨w.heap.size + 1 + 1, 2, none⟩ (.slice (some ⟨g3, 0, none⟩) 1 c3)) := hb0.trans HSN.2
    refine bodyPost_ret (v := .agg #[.int .i64 lim, .slice none 0 0, .slice (some ⟨g3, 0, none⟩) 1 c3]) (by simp [results, Try.results28, go_sem, t0, t1, t2, s0, s1, s2]) rfl ⟨⟨zeroX3.more g3 c3 ((h1, h2, h3), es'), l', ?_, hp, hri, ?_⟩, ?_⟩
    · rw [HPK.out]; rfl
    · rw [HPK.out]; exact OB_set3 HSN.1.ob HSN.1.rt _ _ _
    · exact ((hbz.setCell (by dsimp only; omega) _).setCell (by dsimp only; omega) _).setCell (by dsimp only; omega) _
  · go_wp2
    have hB3 := ((hbw.setCell (p := ⟨w.heap.size + 1, 0, none⟩) (by dsimp only; omega) (.int .i64 lim)).setCell (p := ⟨w.heap.size + 1, 1, none⟩) (by dsimp only; omega) (.slice none 0 0)).setCell (p := ⟨w.heap.size + 1, 2, none⟩) (by dsimp only; omega) (.slice none 0 0)
    exact bodyPost_ret (v := .agg #[.int .i64 lim, .slice none 0 0, .slice none 0 0]) (by simp [results, Try.results28, go_sem, r0, r1, r2]) rfl ⟨⟨⟨none, 0, ((none, 0, 0), []), []⟩, l', rfl, hp, hri, OB_zero hB3.size (by rw [← HL2.out]; exact h0)⟩, hB3⟩
end Go.Proofs.Ytnfknkihiapgiaa.bf

/- The document's ScanIn and There, of a right buffer. -/
namespace Go.Proofs.Ytnfknkihiapgiaa.bf
open Go.ChangeShapes Go.WideShapes Go.ChangeAt Go.RowKit
open vl
set_option linter.unusedVariables false
set_option linter.unusedSimpArgs false
attribute [local go_sem] Oper.semAt_some
theorem own_ems {w : World} {base n cap : Nat} {ad : Option Addr} {es : List EM} (h : w.ownsRow base 28 5 (.slice ad n cap) es.length (entCells es)) : emsAt w ad es := by
  intro i hi
  rcases h.2 with ⟨hv, h0⟩ | ⟨g, cap', cur, hv, h1, hg, h2⟩
  · omega
  · cases hv
    have hc := World.ownsRow.cells h (g := g) rfl
    obtain ⟨x1, x2, x3, x4, x5⟩ := entCells_at es i hi
    refine ⟨g, 0, rfl, ?_, ?_, ?_, ?_, ?_⟩
    · have := hc _ _ x1; rw [add_at] at this; exact this
    · have := hc _ _ x2; rw [add_at] at this; exact this
    · have := hc _ _ x3; rw [add_at] at this; exact this
    · have := hc _ _ x4; rw [add_at] at this; exact this
    · have := hc _ _ x5; rw [add_at] at this; exact this
/-- how an entry's key and time stand to what is asked for -/
theorem inScan_cases (k : ByteArray) (a z : Int) (y : Ent) : inScan k a z y = (decide (y.key = k) && (decide (a ≤ y.time) && decide (y.time ≤ z))) := rfl
set_option maxRecDepth 100000 in
set_option maxHeartbeats 8000000 in
theorem scanIn_ok (b : Buf) (x : BX) (key : ByteArray) (a z : Int) (w : World) (h : bufAt w b x) (ok : okB b) :
    Calls Try.prog 25 #[bufV b x, .string key, .int .i64 a, .int .i64 z] w fun e w' => (∃ (ad : Option Addr) (cap : Nat) (es : List EM) (l : List Ent), e = .returned (.slice ad l.length cap) ∧ emsAt w' ad es ∧ ERs w' es l ∧ l.Perm ((entsB b).filter (inScan key a z)) ∧ Rise l) ∧ Below w.heap.size w w' := by
  have KE : Hid (∀ w1, Below w.heap.size w w1 → Calls Try.prog 26 #[bufV b x] w1 fun e w' => (∃ (hh : Hdr) (es : List EM) (l : List Ent), e = .returned (hdV hh) ∧ OE w' w1.heap.size (hdV hh) es l ∧ l.Perm (entsB b) ∧ Rise l) ∧ Below w1.heap.size w1 w') := fun w1 hb => allIn_ok b x w1 (bufAt_below h hb) ok
  have hsz0 := ok.all
  obtain ⟨L, hL⟩ : ∃ z, entsB b = z := ⟨_, rfl⟩
  rw [hL] at KE hsz0 ⊢
  have HSZ : Hid (L.length ≤ 4096) := hsz0
  clear h ok hL hsz0
  obtain ⟨iE, hi0, hz0, hz1, hz2⟩ := info_parts infoE
  have HJ : Hid (Try.prog.info? 28 = some iE ∧ iE.zero = some (.agg #[.string ⟨#[]⟩, .int .i64 0, .int .i64 0, .slice none 0 0, .bool false]) ∧ iE.size = 5 ∧ iE.bytes = 64) := ⟨hi0, hz0, hz1, hz2⟩
  clear hi0 hz0 hz1 hz2
  obtain ⟨ra, rc, ⟨⟨m1, m2, m3⟩, ml⟩, rs⟩ := x
  obtain ⟨lim, mem, runs⟩ := b
  rw [show bufV ⟨lim, mem, runs⟩ ⟨ra, rc, ((m1, m2, m3), ml), rs⟩ = .agg #[.int .i64 lim, .slice m1 m2 m3, .slice ra rs.length rc] from rfl] at KE ⊢
  obtain ⟨n, hn⟩ : ∃ n, rs.length = n := ⟨_, rfl⟩
  rw [hn] at KE ⊢
  clear hn
  have hb0 : Below w.heap.size w (w.alloc (.cells #[.int .i64 lim, .slice m1 m2 m3, .slice ra n rc] 25)) := (Below.refl _ _).alloc (Nat.le_refl _) _
  go_enter Try.func25, Try.ntmps25
  go_wp2_with (go_at_call 26; refine (KE.out _ hb0).mono ?_; rintro e w2 ⟨⟨⟨q1, q2, q3⟩, es, l, rfl, hoe, hp, hri⟩, hb2⟩; unfold hdV at hoe ⊢; dsimp only at hoe ⊢)
  have hbw : Below w.heap.size w w2 := hb0.trans (hb2.mono hb0.size)
  have hq : q2 = es.length := by obtain ⟨ad, cp, e⟩ := hoe.form; cases e; rfl
  subst hq
  have HAT : Hid (emsAt w2 q1 es) := hoe.at
  have HER : Hid (ERs w2 es l) := hoe.ers
  have HPR : Hid (l.Perm L ∧ Rise l) := ⟨hp, hri⟩
  have hln : es.length ≤ 4096 := by rw [hoe.len, hp.length_eq]; exact HSZ.out
  obtain ⟨en, hen⟩ : ∃ z, es.length = z := ⟨_, rfl⟩
  have HEN : Hid (es.length = en ∧ l.length = en) := ⟨hen, by rw [← hoe.len, hen]⟩
  rw [hen] at hln ⊢
  clear hoe hp hri hb2 hen
  go_loopw [9, 11] (fun o ii wr => ∃ (k : Nat) (ad : Option Addr) (cap : Nat) (es' : List EM), k ≤ en ∧ o = .slice ad es'.length cap ∧ ii = .int .i64 k ∧ wr.ownsRow w2.heap.size 28 5 (.slice ad es'.length cap) es'.length (entCells es') ∧ ERs w2 es' ((l.take k).filter (inScan key a z)) ∧ Below w2.heap.size w2 wr) (fun _ ii _ => en - (intOf ii).toNat)
  case atStart => exact ⟨0, none, 0, [], Nat.zero_le _, rfl, rfl, World.ownsRow_nil _ _ _ _, ERs_nil _, Below.refl _ _⟩
  case round =>
    obtain ⟨k, ad, cap, es', hk, rfl, rfl, hown, hers, hnx⟩ := hrel
    obtain ⟨e2, he2⟩ : ∃ z, es'.length = z := ⟨_, rfl⟩
    have HE2 : Hid (es'.length = e2) := he2
    rw [he2] at hown ⊢
    have HOW : Hid (wr.ownsRow w2.heap.size 28 5 (.slice ad e2 cap) e2 (entCells es')) := hown
    have HRS : Hid (ERs w2 es' ((l.take k).filter (inScan key a z))) := hers
    have hel : e2 ≤ 4096 := by
      have h1 := hers.1
      have h2 := List.length_filter_le (inScan key a z) (l.take k)
      rw [List.length_take, HEN.out.2] at h2
      omega
    have hbr : Below w.heap.size w wr := hbw.trans (hnx.mono hbw.size)
    have hsz := hnx.size
    clear hown hers he2
    by_cases hlt : k < en
    · have hkl : k < l.length := by rw [HEN.out.2]; exact hlt
      obtain ⟨b1, o1, ee, x1, x2, x3, x4, x5⟩ := HAT.out k (by rw [HEN.out.1]; exact hlt)
      subst ee
      have z1 := cell_later hnx x1
      have z2 := cell_later hnx x2
      have z3 := cell_later hnx x3
      have z4 := cell_later hnx x4
      have z5 := cell_later hnx x5
      have her := HER.out.2 k hkl
      have HF : Hid ((l.take (k + 1)).filter (inScan key a z) = (l.take k).filter (inScan key a z) ++ (if inScan key a z (l.getD k default) = true then [l.getD k default] else [])) := filter_succ hkl
      have HEE : Hid (ER w2 (es.getD k default) (l.getD k default)) := her
      have hk1 := her.key
      have ht1 := her.time
      obtain ⟨xx, hxx⟩ : ∃ z, l.getD k default = z := ⟨_, rfl⟩
      rw [hxx] at HF HEE hk1 ht1
      obtain ⟨⟨ek, et, es1, ⟨r1, r2, r3⟩, em⟩, hz⟩ : ∃ z, es.getD k default = z := ⟨_, rfl⟩
      rw [hz] at z1 z2 z3 z4 z5 HEE hk1 ht1
      unfold hdV at z4
      dsimp only at z1 z2 z3 z4 z5 hk1 ht1
      have i1 : (0 : Int) ≤ (k : Int) := by omega
      have i2 : (k : Int) < (en : Int) := by omega
      have lb1 : b1 < wr.heap.size := World.block_lt_of_cell? _ _ z1
      have HIS : Hid (inScan key a z xx = (decide (ek = key) && (decide (a ≤ et) && decide (et ≤ z)))) := by show _ = _; rw [inScan_cases, ← hk1, ← ht1]
      clear hz hxx her x1 x2 x3 x4 x5 hk1 ht1
      have HNO : Hid (inScan key a z xx = false → ERs w2 es' ((l.take (k + 1)).filter (inScan key a z))) := fun h => by rw [HF.out, if_neg (by rw [h]; exact Bool.false_ne_true), List.append_nil]; exact HRS.out
      by_cases c1 : ek = key
      · subst c1
        by_cases c2 : et ≥ a
        · by_cases c3 : et ≤ z
          · have HYES : Hid (ERs w2 (es' ++ [⟨ek, et, es1, (r1, r2, r3), em⟩]) ((l.take (k + 1)).filter (inScan ek a z))) := by
              have hy : inScan ek a z xx = true := by rw [HIS.out]; simp [c3, c2]
              rw [HF.out, if_pos hy]
              exact ERs_app HRS.out (ERs_one HEE.out)
            go_wp2_with (at_builtin; refine wpList_append_own _ rfl (.tmp 45) (.tmp 50) 22 rfl w2.heap.size 28 iE (.agg #[.string ⟨#[]⟩, .int .i64 0, .int .i64 0, .slice none 0 0, .bool false]) 5 64 Try.underlying22 HJ.out.1 HJ.out.2.1 HJ.out.2.2.1 HJ.out.2.2.2 rfl (by decide) _ _ _ rfl (World.ownsRow.alloc HOW.out _) ⟨wr.heap.size, 0, none⟩ 1 1 [.string ek, .int .i64 et, .int .i64 es1, .slice r1 r2 r3, .bool em] rfl rfl (cell_five_new _ _ _ _ _ _ _) (by intro u hu; simp at hu; rcases hu with rfl | rfl | rfl | rfl | rfl <;> rfl) (by unfold maxLen; omega) (by omega) (by simp; omega) ?_; intro v9 w3 hown3 hgrow3 hnil3)
            obtain ⟨g3, c4, hv3⟩ := own_some hown3
            subst hv3
            have hb3 : Below w2.heap.size w2 w3 := (hnx.alloc hsz _).grown hgrow3 (by simp; omega) (fun c hc => (own_lt HOW.out hc).1)
            have hsn := entCells_snoc es' ⟨ek, et, es1, (r1, r2, r3), em⟩
            have hln2 : (es' ++ [(⟨ek, et, es1, (r1, r2, r3), em⟩ : EM)]).length = e2 + 1 := by rw [List.length_append, HE2.out]; rfl
            go_roundw
            case rel => exact ⟨k + 1, some ⟨g3, 0, none⟩, c4, es' ++ [⟨ek, et, es1, (r1, r2, r3), em⟩], by omega, by rw [hln2], by go_num, by rw [hln2, hsn]; exact hown3, HYES.out, hb3⟩
            case measure => simp [intOf] <;> omega
          · have HX := HNO.out (by rw [HIS.out]; simp [c3])
            go_wp2
            go_roundw
            case rel => exact ⟨k + 1, ad, cap, es', by omega, by rw [HE2.out], by go_num, by rw [HE2.out]; exact HOW.out, HX, hnx⟩
            case measure => simp [intOf] <;> omega
        · have HX := HNO.out (by rw [HIS.out]; simp; omega)
          go_wp2
          go_roundw
          case rel => exact ⟨k + 1, ad, cap, es', by omega, by rw [HE2.out], by go_num, by rw [HE2.out]; exact HOW.out, HX, hnx⟩
          case measure => simp [intOf] <;> omega
      · have HX := HNO.out (by rw [HIS.out]; simp [c1])
        have c1' := keys_ne c1
        have c2' : (ek.toList == key.toList) = false := by simpa using c1'
        clear c1'
        go_wp2
        go_roundw
        case rel => exact ⟨k + 1, ad, cap, es', by omega, by rw [HE2.out], by go_num, by rw [HE2.out]; exact HOW.out, HX, hnx⟩
        case measure => simp [intOf] <;> omega
    · have HT : Hid (l.take k = l) := List.take_of_length_le (by rw [HEN.out.2]; omega)
      go_wp2
      go_ret
      have hr := HRS.out
      rw [HT.out] at hr
      exact ⟨⟨ad, cap, es', l.filter (inScan key a z), congrArg Ending.returned (by rw [← hr.1, HE2.out]; rfl), own_ems (by rw [HE2.out]; exact HOW.out), hr.below hnx, HPR.out.1.filter _, rise_filter _ HPR.out.2⟩, hbr⟩
end Go.Proofs.Ytnfknkihiapgiaa.bf
