/- Several texts in one: BatAllS, BatAll. -/
import Derived.Test.YtcpanmaahhiioaaGreatMgBatF
import Derived.Test.YtcpanmaahhiioaaGreatMgBatG
import Derived.Test.YtcpanmaahhiioaaGreatMgBatD
import Derived.Test.YtcpanmaahhiioaaGreatMgPlnB
/- What the document's JoinAll has put, step by step; and what lies in memory meanwhile. -/
namespace Go.Proofs.YtcpanmaahhiioaaGreat.bt
open Go.ChangeShapes Go.WideShapes Go.ChangeAt Go.RowKit Go.Maps Go.WideMaps
open vl pl
set_option linter.unusedVariables false
set_option linter.unusedSimpArgs false
/-- W: the world behind the map; C: the list's variable; M: the block of what was met -/
structure JV (W : World) (C M n : Nat) (wr : World) (v : Value) (l : List (List Cel)) (met : Nat → Bool) : Prop where
  one : OV wr C (M + 1) v l
  und : C < M
  os : wr.os = W.os
  tape : wr.tape = W.tape
  output : wr.output = W.output
  size : W.heap.size ≤ wr.heap.size
  block : ∀ b, b < M → b ≠ C → wr.heap[b]? = W.heap[b]?
  met : ∀ j, j < n → wr.cell? ⟨M, j, none⟩ = some (.bool (met j))
  frz : ∀ j, wr.frozen? ⟨M, j, none⟩ = false
theorem JV.mlt {W wr : World} {C M n : Nat} {v : Value} {l : List (List Cel)} {met : Nat → Bool} (h : JV W C M n wr v l met) : M < wr.heap.size := by have := h.one.low; omega
theorem JV_below {W wr w' : World} {C M n : Nat} {v : Value} {l : List (List Cel)} {met : Nat → Bool} (h : JV W C M n wr v l met) (hb : Below wr.heap.size wr w') : JV W C M n w' v l met :=
  ⟨OV_below h.one hb, h.und, hb.os.trans h.os, hb.tape.trans h.tape, hb.output.trans h.output, Nat.le_trans h.size hb.size, fun b h1 h2 => (hb.block b (by have := h.mlt; omega)).trans (h.block b h1 h2), fun j hj => cell_later hb (h.met j hj), fun j => (hb.frozen (p := ⟨M, j, none⟩) h.mlt).trans (h.frz j)⟩
theorem JV_set {W wr : World} {C M n : Nat} {v : Value} {l : List (List Cel)} {met : Nat → Bool} (h : JV W C M n wr v l met) (k : Nat) (hk : k < n) : JV W C M n (wr.setCell ⟨M, k, none⟩ (.bool true)) v l (fun j => met j || decide (j = k)) := by
  have hm := h.mlt
  have hu := h.und
  refine ⟨OV_keep h.one (fun b hb hlt => Below.heap_setCell _ _ _ b (show b ≠ M by omega)) (by simp [World.setCell]), hu, h.os, h.tape, h.output, by simp [World.setCell]; exact h.size, fun b h1 h2 => (Below.heap_setCell _ _ _ b (show b ≠ M by omega)).trans (h.block b h1 h2), fun j hj => ?_, fun j => by rw [World.frozen?_setCell]; exact h.frz j⟩
  by_cases e : j = k
  · subst e
    rw [World.cell?_setCell_same _ _ _ (h.met j hj)]
    simp
  · rw [World.cell?_setCell_other _ _ _ _ (by intro e2; cases e2; exact e rfl), h.met j hj]
    simp [e]
theorem JV_old {W wr w0 : World} {C M n : Nat} {v : Value} {l : List (List Cel)} {met : Nat → Bool} (h : JV W C M n wr v l met) (hb : Below w0.heap.size w0 W) (hC : w0.heap.size ≤ C) : Below w0.heap.size w0 wr :=
  ⟨h.os.trans hb.os, h.tape.trans hb.tape, h.output.trans hb.output, Nat.le_trans hb.size h.size, fun b hlt => (h.block b (by have := h.und; omega) (by omega)).trans (hb.block b hlt)⟩
theorem JV_cell {W wr : World} {C M n : Nat} {v : Value} {l : List (List Cel)} {met : Nat → Bool} (h : JV W C M n wr v l met) {b o : Nat} {x : Value} (hc : W.cell? ⟨b, o, none⟩ = some x) (h1 : b < M) (h2 : b ≠ C) : wr.cell? ⟨b, o, none⟩ = some x :=
  (World.cell?_of_block (w := W) (a := ⟨b, o, none⟩) (h.block b h1 h2)).trans hc
theorem JV_start {W : World} {C n : Nat} (hc : W.cell? ⟨C, 0, none⟩ = some (.slice none 0 0)) (hf : W.frozen? ⟨C, 0, none⟩ = false) :
    JV W C W.heap.size n (W.alloc (.cells (madeCells #[.bool false] n) 4)) (.slice none 0 0) [] (fun _ => false) := by
  have hlt := World.block_lt_of_cell? _ _ hc
  have hb : Below W.heap.size W (W.alloc (.cells (madeCells #[.bool false] n) 4)) := (Below.refl _ _).alloc (Nat.le_refl _) _
  refine ⟨OV_start (cell_later hb hc) ((hb.frozen (p := ⟨C, 0, none⟩) hlt).trans hf) (Nat.lt_succ_of_lt hlt) (by simp), hlt, rfl, rfl, rfl, by simp, fun b h1 _ => hb.block b h1, fun j hj => bools_at n W j hj, fun j => ?_⟩
  exact World.frozen?_alloc_new _ _ _ _
theorem JV_put {W wr w' : World} {C M n : Nat} {v v' : Value} {l l' : List (List Cel)} {met : Nat → Bool} (h : JV W C M n wr v l met) (ho : OV w' C (M + 1) v' l') (hf : fb C (M + 1) wr w') : JV W C M n w' v' l' met := by
  have hu := h.und
  have hMb := hf.block M (Nat.lt_succ_self _) (by omega)
  exact ⟨ho, hu, hf.os.trans h.os, hf.tape.trans h.tape, hf.output.trans h.output, Nat.le_trans h.size hf.size, fun b h1 h2 => (hf.block b (by omega) h2).trans (h.block b h1 h2), fun j hj => (World.cell?_of_block (w := wr) (a := ⟨M, j, none⟩) hMb).trans (h.met j hj), fun j => (World.frozen?_of_block (w := wr) (a := ⟨M, j, none⟩) hMb).trans (h.frz j)⟩
/-- put behind i left rows -/
def rK (p : Pln) (L R : List Stm) (i : Nat) : List (List Cel) := (L.take i).flatMap (toldL p R)
def pK (p : Pln) (L R : List Stm) (i k : Nat) : List Nat := (List.range k).filter (partnerB p (L.getD i default) R)
/-- and behind k right ones for the next -/
def rJ (p : Pln) (L R : List Stm) (i k : Nat) : List (List Cel) := rK p L R i ++ (pK p L R i k).map (fun j => (L.getD i default).r ++ (R.getD j default).r)
def mJ (p : Pln) (L R : List Stm) (i k : Nat) : Nat → Bool := fun j => MK p L R i j || (pK p L R i k).contains j
def rR (p : Pln) (L R : List Stm) (k : Nat) : List (List Cel) := L.flatMap (toldL p R) ++ (List.range k).flatMap (toldR p L R)
theorem pK_succ (p : Pln) (L R : List Stm) (i k : Nat) : pK p L R i (k + 1) = pK p L R i k ++ (if partnerB p (L.getD i default) R k = true then [k] else []) := by
  unfold pK
  rw [List.range_succ, List.filter_append, List.filter_cons, List.filter_nil]
theorem pK_all (p : Pln) (L R : List Stm) (i : Nat) : pK p L R i R.length = PS p L R i := (partners_filter p _ R).symm
theorem rJ_zero (p : Pln) (L R : List Stm) (i : Nat) : rJ p L R i 0 = rK p L R i := by simp [rJ, pK]
theorem mJ_zero (p : Pln) (L R : List Stm) (i : Nat) : mJ p L R i 0 = MK p L R i := by funext j; simp [mJ, pK]
theorem rJ_yes (p : Pln) (L R : List Stm) (i k : Nat) (h : partnerB p (L.getD i default) R k = true) : rJ p L R i (k + 1) = rJ p L R i k ++ [(L.getD i default).r ++ (R.getD k default).r] := by
  unfold rJ
  rw [pK_succ, if_pos h, List.map_append, List.append_assoc]; rfl
theorem rJ_no (p : Pln) (L R : List Stm) (i k : Nat) (h : partnerB p (L.getD i default) R k = false) : rJ p L R i (k + 1) = rJ p L R i k := by
  unfold rJ
  rw [pK_succ, if_neg (by rw [h]; decide), List.append_nil]
theorem mJ_yes (p : Pln) (L R : List Stm) (i k : Nat) (h : partnerB p (L.getD i default) R k = true) : mJ p L R i (k + 1) = fun j => mJ p L R i k j || decide (j = k) := by
  funext j
  unfold mJ
  rw [pK_succ, if_pos h, List.contains_eq_any_beq, List.any_append, List.contains_eq_any_beq, Bool.or_assoc]
  congr 2
  rw [Bool.eq_iff_iff]
  simp
theorem mJ_no (p : Pln) (L R : List Stm) (i k : Nat) (h : partnerB p (L.getD i default) R k = false) : mJ p L R i (k + 1) = mJ p L R i k := by
  funext j
  unfold mJ
  rw [pK_succ, if_neg (by rw [h]; decide), List.append_nil]
theorem aK_yes (p : Pln) (L R : List Stm) (i k : Nat) (h : partnerB p (L.getD i default) R k = true) : decide (pK p L R i (k + 1) = []) = false := by
  rw [pK_succ, if_pos h]; simp
theorem aK_no (p : Pln) (L R : List Stm) (i k : Nat) (h : partnerB p (L.getD i default) R k = false) : decide (pK p L R i (k + 1) = []) = decide (pK p L R i k = []) := by
  rw [pK_succ, if_neg (by rw [h]; decide), List.append_nil]
theorem rK_succ (p : Pln) (L R : List Stm) (i : Nat) (h : i < L.length) : rK p L R (i + 1) = rJ p L R i R.length ++ (if decide (pK p L R i R.length = []) = true ∧ keepsL p = true then [(L.getD i default).r ++ nullRow p.right.length] else []) := by
  unfold rK rJ
  rw [take_stm L i h, List.flatMap_append, List.append_assoc, List.flatMap_singleton, pK_all]
  congr 1
  unfold toldL PS
  congr 1
  simp
theorem mK_succ (p : Pln) (L R : List Stm) (i : Nat) (h : i < L.length) : MK p L R (i + 1) = mJ p L R i R.length := by
  rw [MK_succ p L R i h]
  unfold MJ mJ
  rw [pK_all, List.take_length]
theorem rR_zero (p : Pln) (L R : List Stm) : rR p L R 0 = rK p L R L.length := by simp [rR, rK]
theorem rR_succ (p : Pln) (L R : List Stm) (k : Nat) : rR p L R (k + 1) = rR p L R k ++ (if MK p L R L.length k = false ∧ keepsR p = true then [nullRow p.left.length ++ (R.getD k default).r] else []) := by
  unfold rR
  rw [List.range_succ, List.flatMap_append, ← List.append_assoc, List.flatMap_singleton]
  congr 1
  unfold toldR MK
  rw [List.take_length]
theorem rR_end (p : Pln) (L R : List Stm) : rR p L R R.length = told p L R := rfl
theorem rK_le (p : Pln) (L R : List Stm) (i : Nat) : (rK p L R i).length ≤ (told p L R).length := by
  unfold rK told
  rw [List.length_append]
  have e : L.flatMap (toldL p R) = (L.take i).flatMap (toldL p R) ++ (L.drop i).flatMap (toldL p R) := by rw [← List.flatMap_append, List.take_append_drop]
  rw [e, List.length_append]
  omega
theorem rJ_le (p : Pln) (L R : List Stm) (i k : Nat) (hi : i < L.length) (hk : k ≤ R.length) : (rJ p L R i k).length ≤ (told p L R).length := by
  refine Nat.le_trans ?_ (rK_le p L R (i + 1))
  rw [rK_succ p L R i hi, List.length_append]
  have h1 : (pK p L R i k).length ≤ (pK p L R i R.length).length := by
    unfold pK
    exact ((List.range_sublist.2 hk).filter _).length_le
  unfold rJ
  rw [List.length_append, List.length_append, List.length_map, List.length_map]
  omega
theorem rR_le (p : Pln) (L R : List Stm) (k : Nat) (hk : k ≤ R.length) : (rR p L R k).length ≤ (told p L R).length := by
  unfold rR told
  rw [List.length_append, List.length_append]
  have h : ((List.range k).flatMap (toldR p L R)).length ≤ ((List.range R.length).flatMap (toldR p L R)).length := by
    have : R.length = k + (R.length - k) := by omega
    rw [this, List.range_add, List.flatMap_append, List.length_append]
    omega
  omega
theorem partner_vers {p : Pln} (hk : p.kind = 3) (l : Stm) (R : List Stm) (k : Nat) (iv : Option Nat) (h : (if hasB p 1 l.r = true then versionOf l.t R (placesOf p R (keyOfS p 1 l.r)) else none) = iv) : partnerB p l R k = decide (iv = some k) := by
  unfold partnerB
  rw [if_pos hk, ← h]
  cases hasB p 1 l.r <;> simp
theorem partner_pair {p : Pln} (hk : p.kind ≠ 3) (l : Stm) (R : List Stm) (k : Nat) : partnerB p l R k = pairB p l (R.getD k default) := by
  unfold partnerB pairB sameKey atKey
  rw [if_neg hk]
end Go.Proofs.YtcpanmaahhiioaaGreat.bt

/- The document's JoinAll. -/
namespace Go.Proofs.YtcpanmaahhiioaaGreat.bt
open Go.ChangeShapes Go.WideShapes Go.ChangeAt Go.RowKit Go.Maps Go.WideMaps
open vl pl
set_option linter.unusedVariables false
set_option linter.unusedSimpArgs false
theorem OV_form {w : World} {C base : Nat} {v : Value} {rows : List (List Cel)} (h : OV w C base v rows) : ∃ out ad cap, ch.kvOf out = rowsK rows ∧ ch.viewOk out ∧ ch.wfView out ∧ v = .slice ad out.length cap ∧ ch.viewAt w ad out := by
  obtain ⟨L, h1, h2, h3, _⟩ := h.view
  obtain ⟨ad, cap, e, _⟩ := ch.MV_len h1
  subst e
  have hgood := rowsK_good h.ok h.len
  have hview : ch.viewOk (ch.outOf L) ∧ ch.wfView (ch.outOf L) := ch.good_view (by show ch.good (ch.kvP L); rw [h2]; exact hgood) (fun c hc => by
    obtain ⟨p, hp, rfl⟩ := List.mem_map.1 hc
    exact h3 p hp)
  exact ⟨ch.outOf L, ad, cap, h2, hview.1, hview.2, by rw [ch.out_len], ch.MV_view h1⟩
set_option maxRecDepth 100000 in
set_option maxHeartbeats 16000000 in
theorem JoinAll_any (p : Pln) (x : PA) (a1 a2 : Option Addr) (c1 c2 : Nat) (L R : List Stm) (w : World) (hw : wfPlan p) (hp : planAt w p x) (hE : batchErr p L R = 0) (h1 : stmsAt w a1 L) (h2 : stmsAt w a2 R) (hwL : wfStms L) (hwR : wfStms R) :
    Calls Tryz.prog 13 #[planV p x, .slice a1 L.length c1, .slice a2 R.length c2] w fun e w' => (∃ out ad cap, ch.kvOf out = rowsK (told p L R) ∧ ch.viewOk out ∧ ch.wfView out ∧ e = .returned (.slice ad out.length cap) ∧ ch.viewAt w' ad out) ∧ Below w.heap.size w w' := by
  have hok := batch_ok hE
  have hfew := cols_few hok.plan
  have hsome : 1 ≤ p.left.length ∧ 1 ≤ p.right.length := ⟨(planErr_ok hok.plan).2.2.1.1.1.1, (planErr_ok hok.plan).2.2.1.1.2.1.1⟩
  have hmany := hok.many
  have htl := told_len p L R hmany
  have KV : Hid (p.kind = 3 → ∀ w1 i ra ca, i < L.length → Below w.heap.size w w1 → vl.rowAt w1 ra (L.getD i default).r → Calls Tryz.prog 39 #[planV p x, .agg #[.int .i64 (L.getD i default).t, .slice ra (L.getD i default).r.length ca], .slice a2 R.length c2] w1 fun e w' => e = .returned (.int .i64 (ivers (if hasB p 1 (L.getD i default).r = true then versionOf (L.getD i default).t R (placesOf p R (keyOfS p 1 (L.getD i default).r)) else none))) ∧ Below w1.heap.size w1 w') := fun hk w1 i ra ca hi hb hr => by
    have hh := wfs_at hwL i hi
    exact version_any p x (L.getD i default) R ra a2 ca c2 w1 hw (planAt_below hp hb) hok.plan (firstErr_ok hok.l _ (getD_mem hi)) hok.r hh.1 hwR hh.2.1 (by omega) hr (stmsAt_below h2 hb)
  have KP : Hid (p.kind ≠ 3 → ∀ w1 i k ra rb ca cb, i < L.length → k < R.length → Below w.heap.size w w1 → vl.rowAt w1 ra (L.getD i default).r → vl.rowAt w1 rb (R.getD k default).r → Calls Tryz.prog 40 #[planV p x, .agg #[.int .i64 (L.getD i default).t, .slice ra (L.getD i default).r.length ca], .agg #[.int .i64 (R.getD k default).t, .slice rb (R.getD k default).r.length cb]] w1 fun e w' => e = .returned (.bool (partnerB p (L.getD i default) R k)) ∧ Below w1.heap.size w1 w') := fun hk w1 i k ra rb ca cb hi hk2 hb hr1 hr2 => by
    have hh := wfs_at hwL i hi
    have hg := wfs_at hwR k hk2
    rw [partner_pair hk]
    exact pair_any p x (L.getD i default) (R.getD k default) ra rb ca cb w1 hw (planAt_below hp hb) hok.plan hk (firstErr_ok hok.l _ (getD_mem hi)) (firstErr_ok hok.r _ (getD_mem hk2)) hh.1 hg.1 hh.2.1 hg.2.1 (fits_at hok.lt i hi) (fits_at hok.rt k hk2) hr1 hr2
  have HPV : Hid (p.kind = 3 → ∀ i k, partnerB p (L.getD i default) R k = decide ((if hasB p 1 (L.getD i default).r = true then versionOf (L.getD i default).t R (placesOf p R (keyOfS p 1 (L.getD i default).r)) else none) = some k)) := fun hk i k => partner_vers hk _ R k _ rfl
  have K5 : Hid (∀ w1, Calls Tryz.prog 41 #[planV p x] w1 fun e w' => e = .returned (.bool (keepsL p)) ∧ Below w1.heap.size w1 w') := fun w1 => rkeepsL_any p x w1
  have K7 : Hid (∀ w1, Calls Tryz.prog 43 #[planV p x] w1 fun e w' => e = .returned (.bool (keepsR p)) ∧ Below w1.heap.size w1 w') := fun w1 => rkeepsR_any p x w1
  have K6 : Hid (∀ w1, Calls Tryz.prog 42 #[.int .i64 (p.right.length : Int)] w1 fun e w' => (e = .returned (.slice (some ⟨w1.heap.size, 0, none⟩) p.right.length p.right.length) ∧ vl.rowAt w' (some ⟨w1.heap.size, 0, none⟩) (nullRow p.right.length)) ∧ Below w1.heap.size w1 w') := fun w1 => rnulls_any _ w1 hsome.2 hfew.2
  have K8 : Hid (∀ w1, Calls Tryz.prog 42 #[.int .i64 (p.left.length : Int)] w1 fun e w' => (e = .returned (.slice (some ⟨w1.heap.size, 0, none⟩) p.left.length p.left.length) ∧ vl.rowAt w' (some ⟨w1.heap.size, 0, none⟩) (nullRow p.left.length)) ∧ Below w1.heap.size w1 w') := fun w1 => rnulls_any _ w1 hsome.1 hfew.1
  have HA1 : Hid (∀ i, i < L.length → ∃ b off ra rc, a1 = some ⟨b, off, none⟩ ∧ w.cell? ⟨b, off + i * 2, none⟩ = some (.int .i64 (L.getD i default).t) ∧ w.cell? ⟨b, off + i * 2 + 1, none⟩ = some (.slice ra (L.getD i default).r.length rc) ∧ vl.rowAt w ra (L.getD i default).r) := h1
  have HA2 : Hid (∀ i, i < R.length → ∃ b off ra rc, a2 = some ⟨b, off, none⟩ ∧ w.cell? ⟨b, off + i * 2, none⟩ = some (.int .i64 (R.getD i default).t) ∧ w.cell? ⟨b, off + i * 2 + 1, none⟩ = some (.slice ra (R.getD i default).r.length rc) ∧ vl.rowAt w ra (R.getD i default).r) := h2
  have HRL : Hid (∀ k, k < L.length → (L.getD k default).r.length = p.left.length ∧ rowOk ((L.getD k default).r ++ nullRow p.right.length)) := fun k hk => by
    have e1 := side_ok (p := p) (side := 1) p.left.length rfl hok.l hwL (a := (L.getD k default).r) (.inl ⟨_, getD_mem hk, rfl⟩)
    refine ⟨e1.1, ⟨by rw [List.length_append, e1.1, null_len]; omega, fun c hc => ?_⟩⟩
    rcases List.mem_append.1 hc with hc | hc
    · exact e1.2 c hc
    · exact null_ok _ c hc
  have HRR : Hid (∀ k, k < R.length → (R.getD k default).r.length = p.right.length ∧ rowOk (nullRow p.left.length ++ (R.getD k default).r)) := fun k hk => by
    have e1 := side_ok (p := p) (side := 2) p.right.length rfl hok.r hwR (a := (R.getD k default).r) (.inl ⟨_, getD_mem hk, rfl⟩)
    refine ⟨e1.1, ⟨by rw [List.length_append, e1.1, null_len]; omega, fun c hc => ?_⟩⟩
    rcases List.mem_append.1 hc with hc | hc
    · exact null_ok _ c hc
    · exact e1.2 c hc
  have HRB : Hid (∀ i k, i < L.length → k < R.length → rowOk ((L.getD i default).r ++ (R.getD k default).r)) := fun i k hi hk => by
    have e1 := side_ok (p := p) (side := 1) p.left.length rfl hok.l hwL (a := (L.getD i default).r) (.inl ⟨_, getD_mem hi, rfl⟩)
    have e2 := side_ok (p := p) (side := 2) p.right.length rfl hok.r hwR (a := (R.getD k default).r) (.inl ⟨_, getD_mem hk, rfl⟩)
    refine ⟨by rw [List.length_append, e1.1, e2.1]; omega, fun c hc => ?_⟩
    rcases List.mem_append.1 hc with hc | hc
    · exact e1.2 c hc
    · exact e2.2 c hc
  have HNL : Hid ((nullRow p.left.length).length = p.left.length ∧ (nullRow p.right.length).length = p.right.length) := ⟨null_len _, null_len _⟩
  have HT0 : Hid (rK p L R 0 = []) := rfl
  have HM0 : Hid (MK p L R 0 = fun _ => false) := rfl
  have HA0 : Hid (∀ i, decide (pK p L R i 0 = []) = true) := fun i => rfl
  have HJ0 : Hid (∀ i, rJ p L R i 0 = rK p L R i) := rJ_zero p L R
  have HN0 : Hid (∀ i, mJ p L R i 0 = MK p L R i) := mJ_zero p L R
  have HJY : Hid (∀ i k, partnerB p (L.getD i default) R k = true → rJ p L R i (k + 1) = rJ p L R i k ++ [(L.getD i default).r ++ (R.getD k default).r]) := rJ_yes p L R
  have HJN : Hid (∀ i k, partnerB p (L.getD i default) R k = false → rJ p L R i (k + 1) = rJ p L R i k) := rJ_no p L R
  have HMY : Hid (∀ i k, partnerB p (L.getD i default) R k = true → mJ p L R i (k + 1) = fun j => mJ p L R i k j || decide (j = k)) := mJ_yes p L R
  have HMN : Hid (∀ i k, partnerB p (L.getD i default) R k = false → mJ p L R i (k + 1) = mJ p L R i k) := mJ_no p L R
  have HAY : Hid (∀ i k, partnerB p (L.getD i default) R k = true → decide (pK p L R i (k + 1) = []) = false) := aK_yes p L R
  have HAN : Hid (∀ i k, partnerB p (L.getD i default) R k = false → decide (pK p L R i (k + 1) = []) = decide (pK p L R i k = [])) := aK_no p L R
  have HTS : Hid (∀ i, i < L.length → rK p L R (i + 1) = rJ p L R i R.length ++ (if decide (pK p L R i R.length = []) = true ∧ keepsL p = true then [(L.getD i default).r ++ nullRow p.right.length] else [])) := rK_succ p L R
  have HMS : Hid (∀ i, i < L.length → MK p L R (i + 1) = mJ p L R i R.length) := mK_succ p L R
  have HR0 : Hid (rR p L R 0 = rK p L R L.length) := rR_zero p L R
  have HRS : Hid (∀ k, rR p L R (k + 1) = rR p L R k ++ (if MK p L R L.length k = false ∧ keepsR p = true then [nullRow p.left.length ++ (R.getD k default).r] else [])) := rR_succ p L R
  have HRE : Hid (rR p L R R.length = told p L R) := rR_end p L R
  have HJL : Hid (∀ i k, i < L.length → k ≤ R.length → (rJ p L R i k).length < 4096) := fun i k hi hk => by have := rJ_le p L R i k hi hk; omega
  have HRLn : Hid (∀ k, k ≤ R.length → (rR p L R k).length < 4096) := fun k hk => by have := rR_le p L R k hk; omega
  obtain ⟨PB, q0⟩ : ∃ f : Nat → Nat → Bool, ∀ i k, partnerB p (L.getD i default) R k = f i k := ⟨_, fun _ _ => rfl⟩
  obtain ⟨IV, q00⟩ : ∃ f : Nat → Option Nat, ∀ i, (if hasB p 1 (L.getD i default).r = true then versionOf (L.getD i default).t R (placesOf p R (keyOfS p 1 (L.getD i default).r)) else none) = f i := ⟨_, fun _ => rfl⟩
  simp only [q0, q00] at KV KP HPV HJY HJN HMY HMN HAY HAN
  obtain ⟨RLf, e1⟩ : ∃ f : Nat → List Cel, ∀ k, (L.getD k default).r = f k := ⟨_, fun _ => rfl⟩
  obtain ⟨RRf, e2⟩ : ∃ f : Nat → List Cel, ∀ k, (R.getD k default).r = f k := ⟨_, fun _ => rfl⟩
  obtain ⟨tLf, e3⟩ : ∃ f : Nat → Int, ∀ k, (L.getD k default).t = f k := ⟨_, fun _ => rfl⟩
  obtain ⟨tRf, e4⟩ : ∃ f : Nat → Int, ∀ k, (R.getD k default).t = f k := ⟨_, fun _ => rfl⟩
  simp only [e1, e2, e3, e4] at KV KP HA1 HA2 HRL HRR HRB HJY HTS HRS
  obtain ⟨TKf, e11⟩ : ∃ f : Nat → List (List Cel), ∀ k, rK p L R k = f k := ⟨_, fun _ => rfl⟩
  obtain ⟨MKf, e12⟩ : ∃ f : Nat → Nat → Bool, ∀ k, MK p L R k = f k := ⟨_, fun _ => rfl⟩
  obtain ⟨TJf, e13⟩ : ∃ f : Nat → Nat → List (List Cel), ∀ k j, rJ p L R k j = f k j := ⟨_, fun _ _ => rfl⟩
  obtain ⟨MJf, e14⟩ : ∃ f : Nat → Nat → Nat → Bool, ∀ k j, mJ p L R k j = f k j := ⟨_, fun _ _ => rfl⟩
  obtain ⟨AJf, e15⟩ : ∃ f : Nat → Nat → Bool, ∀ k j, decide (pK p L R k j = []) = f k j := ⟨_, fun _ _ => rfl⟩
  obtain ⟨TRf, e16⟩ : ∃ f : Nat → List (List Cel), ∀ k, rR p L R k = f k := ⟨_, fun _ => rfl⟩
  simp only [e11, e12, e13, e14, e15, e16] at HT0 HM0 HA0 HJ0 HN0 HJY HJN HMY HMN HAY HAN HTS HMS HR0 HRS HRE HJL HRLn
  obtain ⟨TO, e17⟩ : ∃ z, told p L R = z := ⟨_, rfl⟩
  obtain ⟨KL, e18⟩ : ∃ z, keepsL p = z := ⟨_, rfl⟩
  obtain ⟨KR, e19⟩ : ∃ z, keepsR p = z := ⟨_, rfl⟩
  obtain ⟨NRL, e20⟩ : ∃ z, nullRow p.left.length = z := ⟨_, rfl⟩
  obtain ⟨NRR, e21⟩ : ∃ z, nullRow p.right.length = z := ⟨_, rfl⟩
  simp only [e17, e18, e19, e20, e21] at HRE K5 K7 K6 K8 HTS HRS HNL HRL HRR ⊢
  clear q0 q00 e1 e2 e3 e4 e11 e12 e13 e14 e15 e16 e17 e18 e19 e20 e21 hw hp hE h1 h2 hwL hwR hok htl
  obtain ⟨n, hn⟩ : ∃ n, R.length = n := ⟨_, rfl⟩
  obtain ⟨nL, hnL⟩ : ∃ n, L.length = n := ⟨_, rfl⟩
  simp only [hn, hnL] at KV KP HA1 HA2 HRL HRR HRB HTS HMS HR0 HRS HRE HJL HRLn hmany ⊢
  clear hn hnL
  obtain ⟨kind, mode, low, high, size, limit, left, right, lkeys, rkeys, grouped, group, aggs⟩ := p
  obtain ⟨la, lc, rr, rc, lk, lkc, rk, rkc, g, gc, ag, ac⟩ := x
  unfold planV at KV KP K5 K7 ⊢
  dsimp only at KV KP HPV K5 K6 K7 K8 HRL HRR HNL hfew hsome ⊢
  obtain ⟨n6, h6⟩ : ∃ n, left.length = n := ⟨_, rfl⟩
  obtain ⟨n7, h7⟩ : ∃ n, right.length = n := ⟨_, rfl⟩
  obtain ⟨n8, h8⟩ : ∃ n, lkeys.length = n := ⟨_, rfl⟩
  obtain ⟨n9, h9⟩ : ∃ n, rkeys.length = n := ⟨_, rfl⟩
  obtain ⟨n11, h11⟩ : ∃ n, group.length = n := ⟨_, rfl⟩
  obtain ⟨n12, h12⟩ : ∃ n, aggs.length = n := ⟨_, rfl⟩
  simp only [h6, h7, h8, h9, h11, h12] at KV KP K5 K6 K7 K8 HRL HRR HNL hfew hsome ⊢
  clear h6 h7 h8 h9 h11 h12
  have KB : Hid (∀ (r1 r2 : List Cel) a b c d w1, r1.length = n6 → r2.length = n7 → vl.rowAt w1 a r1 → vl.rowAt w1 c r2 → Calls Tryz.prog 21 #[.slice a n6 b, .slice c n7 d] w1 fun e w' => (∃ ad cap, e = .returned (.slice ad (n6 + n7) cap) ∧ ownV w' w1.heap.size (.slice ad (n6 + n7) cap) (r1 ++ r2)) ∧ Below w1.heap.size w1 w') := fun r1 r2 a b c d w1 h1 h2 ha hc => by
    have := both_any a c b d r1 r2 w1 (by omega) (by omega) (by omega) ha hc
    rw [List.length_append, h1, h2] at this
    exact this
  have KT : Hid (∀ (C M : Nat) (r1 r2 : List Cel) ad cap (v : Value) (rows : List (List Cel)) (w1 w2 : World), r1.length = n6 → r2.length = n7 → OV w2 C (M + 1) v rows → rows.length < 4096 → rowOk (r1 ++ r2) → (∀ b, v.ownBlock = some b → b < w1.heap.size) → ownV w2 w1.heap.size (.slice ad (n6 + n7) cap) (r1 ++ r2) → Calls Tryz.prog 37 #[.slice ad (n6 + n7) cap, .pointer (some ⟨C, 0, none⟩)] w2 fun e w' => e = .returned (.tuple #[]) ∧ (∃ v', OV w' C (M + 1) v' (rows ++ [r1 ++ r2])) ∧ fb C (M + 1) w2 w') := fun C M r1 r2 ad cap v rows w1 w2 h1 h2 ho hl hok hv hov => by
    have hlen : (r1 ++ r2).length = n6 + n7 := by rw [List.length_append, h1, h2]
    have := put_any C (M + 1) ad cap (r1 ++ r2) v rows w2 ho hl hok (ownV_row (by rw [hlen]; exact hov)) (fun b o y e hb => by
      have h3 := hv b hb
      subst e
      have h4 := hov.2
      rcases h4 with ⟨h5, _⟩ | ⟨g, c', cur, h5, h6, _⟩
      · injection h5 with h5 _ _; cases h5
      · injection h5 with h5 _ _; injection h5 with h5; injection h5 with h5 _ _; omega)
    rw [hlen] at this
    exact this
  go_enter Tryz.func13, Tryz.ntmps13
  have hmk := fun w1 => make_bools n w1 (by omega)
  go_wp2
  generalize hW : (World.alloc (World.alloc w _) _) = W
  have hbW : Below w.heap.size w W := by rw [← hW]; exact ((Below.refl _ _).alloc (Nat.le_refl _) _).alloc (by simp) _
  have hszW : W.heap.size = w.heap.size + 1 + 1 := by subst hW; simp
  have HSZ : Hid (W.heap.size = w.heap.size + 1 + 1) := hszW
  have s0 : W.cell? ⟨w.heap.size, 0, none⟩ = some (.int .i64 kind) := by subst hW; go_simp
  have s1 : W.cell? ⟨w.heap.size, 1, none⟩ = some (.int .i64 mode) := by subst hW; go_simp
  have s2 : W.cell? ⟨w.heap.size, 2, none⟩ = some (.int .i64 low) := by subst hW; go_simp
  have s3 : W.cell? ⟨w.heap.size, 3, none⟩ = some (.int .i64 high) := by subst hW; go_simp
  have s4 : W.cell? ⟨w.heap.size, 4, none⟩ = some (.int .i64 size) := by subst hW; go_simp
  have s5 : W.cell? ⟨w.heap.size, 5, none⟩ = some (.int .i64 limit) := by subst hW; go_simp
  have s6 : W.cell? ⟨w.heap.size, 6, none⟩ = some (.slice la n6 lc) := by subst hW; go_simp
  have s7 : W.cell? ⟨w.heap.size, 7, none⟩ = some (.slice rr n7 rc) := by subst hW; go_simp
  have s8 : W.cell? ⟨w.heap.size, 8, none⟩ = some (.slice lk n8 lkc) := by subst hW; go_simp
  have s9 : W.cell? ⟨w.heap.size, 9, none⟩ = some (.slice rk n9 rkc) := by subst hW; go_simp
  have s10 : W.cell? ⟨w.heap.size, 10, none⟩ = some (.bool grouped) := by subst hW; go_simp
  have s11 : W.cell? ⟨w.heap.size, 11, none⟩ = some (.slice g n11 gc) := by subst hW; go_simp
  have s12 : W.cell? ⟨w.heap.size, 12, none⟩ = some (.slice ag n12 ac) := by subst hW; go_simp
  have sC : W.cell? ⟨w.heap.size + 1, 0, none⟩ = some (.slice none 0 0) := by subst hW; go_simp
  have fC : W.frozen? ⟨w.heap.size + 1, 0, none⟩ = false := by subst hW; go_simp
  have HST : Hid (JV W (w.heap.size + 1) (w.heap.size + 1 + 1) n (W.alloc (.cells (madeCells #[.bool false] n) 4)) (.slice none 0 0) [] (fun _ => false)) := by
    have := JV_start (n := n) sC fC
    rw [hszW] at this
    exact this
  clear hW hszW sC fC hmk
  go_loopw [10, 11, 12] (fun i _ _ wr => ∃ (k : Nat) (v : Value), k ≤ nL ∧ i = .int .i64 k ∧ JV W (w.heap.size + 1) (w.heap.size + 1 + 1) n wr v (TKf k) (MKf k)) (fun i _ _ _ => nL - (intOf i).toNat)
  case atStart => exact ⟨0, .slice none 0 0, Nat.zero_le _, rfl, by rw [HT0.out, HM0.out]; exact HST.out⟩
  case round =>
    obtain ⟨k, v, hk, rfl, hjs⟩ := hrel
    have HJ : Hid (JV W (w.heap.size + 1) (w.heap.size + 1 + 1) n wr v (TKf k) (MKf k)) := hjs
    clear hjs
    by_cases hlt : k < nL
    · obtain ⟨b, o, ra, rc2, e, x1, x2, x3⟩ := HA1.out k hlt
      subst e
      obtain ⟨hrl, hrn⟩ := HRL.out k hlt
      have HRN : Hid (rowOk (RLf k ++ NRR)) := hrn
      rw [hrl] at x2
      have HX3 : Hid (vl.rowAt w ra (RLf k)) := x3
      have KVk : Hid (kind = 3 → ∀ w1, Below w.heap.size w w1 → _) := fun h w1 hb => KV.out h w1 k ra rc2 hlt hb (rowAt_below x3 hb)
      have KPk : Hid (kind ≠ 3 → ∀ w1 j rb cb, j < n → Below w.heap.size w w1 → vl.rowAt w1 rb (RRf j) → _) := fun h w1 j rb cb hj hb hr => KP.out h w1 k j ra rb rc2 cb hlt hj hb (rowAt_below x3 hb) hr
      rw [hrl] at KVk KPk
      obtain ⟨tv, htv⟩ : ∃ z, tLf k = z := ⟨_, rfl⟩
      rw [htv] at x1 KVk KPk
      have HX1 : Hid (w.cell? ⟨b, o + k * 2, none⟩ = some (.int .i64 tv)) := x1
      have HX2 : Hid (w.cell? ⟨b, o + k * 2 + 1, none⟩ = some (.slice ra n6 rc2)) := x2
      have i1 : (0 : Int) ≤ (k : Int) := by omega
      have i2 : (k : Int) < (nL : Int) := by omega
      clear x1 x2 x3 htv hrn
      go_wp2
      go_loopw [11, 12] (fun al i wq => ∃ (j : Nat) (u : Value), j ≤ n ∧ i = .int .i64 j ∧ al = .bool (AJf k j) ∧ JV W (w.heap.size + 1) (w.heap.size + 1 + 1) n wq u (TJf k j) (MJf k j)) (fun _ i _ => n - (intOf i).toNat)
      case atStart => exact ⟨0, v, Nat.zero_le _, rfl, by rw [HA0.out], by rw [HJ0.out, HN0.out]; exact HJ.out⟩
      case round =>
        rename World => wq
        obtain ⟨j, u, hj, rfl, rfl, hjs⟩ := hrel
        have HJQ : Hid (JV W (w.heap.size + 1) (w.heap.size + 1 + 1) n wq u (TJf k j) (MJf k j)) := hjs
        have hbq : Below w.heap.size w wq := JV_old hjs hbW (by omega)
        have c0 := JV_cell hjs s0 (by omega) (by omega)
        have c1 := JV_cell hjs s1 (by omega) (by omega)
        have c2 := JV_cell hjs s2 (by omega) (by omega)
        have c3 := JV_cell hjs s3 (by omega) (by omega)
        have c4 := JV_cell hjs s4 (by omega) (by omega)
        have c5 := JV_cell hjs s5 (by omega) (by omega)
        have c6 := JV_cell hjs s6 (by omega) (by omega)
        have c7 := JV_cell hjs s7 (by omega) (by omega)
        have c8 := JV_cell hjs s8 (by omega) (by omega)
        have c9 := JV_cell hjs s9 (by omega) (by omega)
        have c10 := JV_cell hjs s10 (by omega) (by omega)
        have c11 := JV_cell hjs s11 (by omega) (by omega)
        have c12 := JV_cell hjs s12 (by omega) (by omega)
        have q1 := cell_later hbq HX1.out
        have q2 := cell_later hbq HX2.out
        have HXQ : Hid (vl.rowAt wq ra (RLf k)) := rowAt_below HX3.out hbq
        have huq := OV_own hjs.one
        have hlwq : w.heap.size < wq.heap.size := World.block_lt_of_cell? _ _ c0
        have dr : Below wq.heap.size wq wq.drew := (Below.refl _ _).drew
        have drw : Below w.heap.size w wq.drew := hbq.trans (dr.mono hbq.size)
        clear hjs
        by_cases hjl : j < n
        · obtain ⟨b2, o2, rb, rc3, e, y1, y2, y3⟩ := HA2.out j hjl
          subst e
          have hrr := (HRR.out j hjl).1
          rw [hrr] at y2
          have HY3 : Hid (vl.rowAt w rb (RRf j)) := y3
          obtain ⟨tr, htr⟩ : ∃ z, tRf j = z := ⟨_, rfl⟩
          have KPj : Hid (kind ≠ 3 → ∀ w1, Below w.heap.size w w1 → _) := fun h w1 hb => KPk.out h w1 j rb rc3 hjl hb (rowAt_below y3 hb)
          rw [htr] at y1 KPj
          rw [hrr] at KPj
          have HY2 : Hid (w.cell? ⟨b2, o2 + j * 2 + 1, none⟩ = some (.slice rb n7 rc3)) := y2
          have z1 := cell_later hbq y1
          have z2 := cell_later hbq y2
          have HYQ : Hid (vl.rowAt wq rb (RRf j)) := rowAt_below y3 hbq
          have HOKB : Hid (rowOk (RLf k ++ RRf j)) := HRB.out k j hlt hjl
          have HLT : Hid ((TJf k j).length < 4096) := HJL.out k j hlt (by omega)
          have j1 : (0 : Int) ≤ (j : Int) := by omega
          have j2 : (j : Int) < (n : Int) := by omega
          have HYJ := HJY.out k j
          have HNJ := HJN.out k j
          have HYM := HMY.out k j
          have HNM := HMN.out k j
          have HYA := HAY.out k j
          have HNA := HAN.out k j
          have HPVk : Hid (kind = 3 → PB k j = decide (IV k = some j)) := fun h => HPV.out h k j
          obtain ⟨pb, hpb⟩ : ∃ z, PB k j = z := ⟨_, rfl⟩
          rw [hpb] at HYJ HNJ HYM HNM HYA HNA HPVk KPj
          obtain ⟨iv, hiv⟩ : ∃ z, IV k = z := ⟨_, rfl⟩
          have KVj : Hid (kind = 3 → ∀ w1, Below w.heap.size w w1 → _) := KVk.out
          rw [hiv] at HPVk KVj
          have H1 : Hid (pb = true → TJf k (j + 1) = TJf k j ++ [RLf k ++ RRf j]) := HYJ
          have H2 : Hid (pb = false → TJf k (j + 1) = TJf k j) := HNJ
          have H3 : Hid (pb = true → MJf k (j + 1) = fun i => MJf k j i || decide (i = j)) := HYM
          have H4 : Hid (pb = false → MJf k (j + 1) = MJf k j) := HNM
          have H5 : Hid (pb = true → AJf k (j + 1) = false) := HYA
          have H6 : Hid (pb = false → AJf k (j + 1) = AJf k j) := HNA
          clear htr hpb hiv HYJ HNJ HYM HNM HYA HNA y1 y2 y3
          by_cases hk3 : kind = 3
          · subst hk3
            have KVV := KVj.out rfl
            have KVW : Hid (∀ w1, Below w.heap.size w w1 → _) := KVV
            have HPW : Hid (pb = decide (iv = some j)) := HPVk.out rfl
            have ta := pl.eql_is (x := (3 : Int)) (y := 3) true rfl
            have tb := pl.neq_is (x := (3 : Int)) (y := 3) false rfl
            clear KVV KVj HPVk KPj
            cases pb with
            | true =>
              have hive : iv = some j := of_decide_eq_true HPW.out.symm
              subst hive
              have hii : ivers (some j) = (j : Int) := rfl
              rw [hii] at KVW
              have tc := pl.eql_is (x := (j : Int)) (y := (j : Int)) true (by simp)
              go_wp2
              refine wp_region_held_drew (S := fun w' => w'.cell? ⟨w.heap.size, 0, none⟩ = some (.int .i64 3) ∧ w'.cell? ⟨w.heap.size, 1, none⟩ = some (.int .i64 mode) ∧ w'.cell? ⟨w.heap.size, 2, none⟩ = some (.int .i64 low) ∧ w'.cell? ⟨w.heap.size, 3, none⟩ = some (.int .i64 high) ∧ w'.cell? ⟨w.heap.size, 4, none⟩ = some (.int .i64 size) ∧ w'.cell? ⟨w.heap.size, 5, none⟩ = some (.int .i64 limit) ∧ w'.cell? ⟨w.heap.size, 6, none⟩ = some (.slice la n6 lc) ∧ w'.cell? ⟨w.heap.size, 7, none⟩ = some (.slice rr n7 rc) ∧ w'.cell? ⟨w.heap.size, 8, none⟩ = some (.slice lk n8 lkc) ∧ w'.cell? ⟨w.heap.size, 9, none⟩ = some (.slice rk n9 rkc) ∧ w'.cell? ⟨w.heap.size, 10, none⟩ = some (.bool grouped) ∧ w'.cell? ⟨w.heap.size, 11, none⟩ = some (.slice g n11 gc) ∧ w'.cell? ⟨w.heap.size, 12, none⟩ = some (.slice ag n12 ac) ∧ w'.cell? ⟨b, o + k * 2, none⟩ = some (.int .i64 tv) ∧ w'.cell? ⟨b, o + k * 2 + 1, none⟩ = some (.slice ra n6 rc2) ∧ w'.cell? ⟨b2, o2 + j * 2, none⟩ = some (.int .i64 tr) ∧ w'.cell? ⟨b2, o2 + j * 2 + 1, none⟩ = some (.slice rb n7 rc3)) (by kernel_rfl) ⟨c0, c1, c2, c3, c4, c5, c6, c7, c8, c9, c10, c11, c12, q1, q2, z1, z2⟩ (fun hHeld => ?_)
              refine takeH (v := ?_) 0 (some 30) rfl (by kernel_rfl) (by kernel_rfl) (by kernel_rfl) (fun _ _ _ h => h) rfl rfl ?_ hHeld ?_
              rotate_left
              · intro w' hSw; (try dsimp only at hSw); first | (go_simp; done) | (go_simp; with_reducible rfl)
              try simp only [Act.put, List.setIfInBounds_toArray, List.set_cons_zero, List.set_cons_succ]
              refine takeH (v := ?_) 1 (some 31) rfl (by kernel_rfl) (by kernel_rfl) (by kernel_rfl) (fun _ _ _ h => h) rfl rfl ?_ hHeld ?_
              rotate_left
              · intro w' hSw; (try dsimp only at hSw); first | (go_simp; done) | (go_simp; with_reducible rfl)
              try simp only [Act.put, List.setIfInBounds_toArray, List.set_cons_zero, List.set_cons_succ]
              refine takeH (v := ?_) 2 (some 32) rfl (by kernel_rfl) (by kernel_rfl) (by kernel_rfl) (fun _ _ _ h => h) rfl rfl ?_ hHeld ?_
              rotate_left
              · intro w' hSw; (try dsimp only at hSw); first | (go_simp; done) | (go_simp; with_reducible rfl)
              try simp only [Act.put, List.setIfInBounds_toArray, List.set_cons_zero, List.set_cons_succ]
              refine takeH (v := ?_) 3 (some 33) rfl (by kernel_rfl) (by kernel_rfl) (by kernel_rfl) (fun _ _ _ h => h) rfl rfl ?_ hHeld ?_
              rotate_left
              · intro w' hSw; (try dsimp only at hSw); first | (go_simp; done) | (go_simp; with_reducible rfl)
              try simp only [Act.put, List.setIfInBounds_toArray, List.set_cons_zero, List.set_cons_succ]
              refine takeH (v := ?_) 4 (some 34) rfl (by kernel_rfl) (by kernel_rfl) (by kernel_rfl) (fun _ _ _ h => h) rfl rfl ?_ hHeld ?_
              rotate_left
              · intro w' hSw; (try dsimp only at hSw); first | (go_simp; done) | (go_simp; with_reducible rfl)
              try simp only [Act.put, List.setIfInBounds_toArray, List.set_cons_zero, List.set_cons_succ]
              refine takeH (v := ?_) 5 (some 35) rfl (by kernel_rfl) (by kernel_rfl) (by kernel_rfl) (fun _ _ _ h => h) rfl rfl ?_ hHeld ?_
              rotate_left
              · intro w' hSw; (try dsimp only at hSw); first | (go_simp; done) | (go_simp; with_reducible rfl)
              try simp only [Act.put, List.setIfInBounds_toArray, List.set_cons_zero, List.set_cons_succ]
              refine takeH (v := ?_) 6 (some 36) rfl (by kernel_rfl) (by kernel_rfl) (by kernel_rfl) (fun _ _ _ h => h) rfl rfl ?_ hHeld ?_
              rotate_left
              · intro w' hSw; (try dsimp only at hSw); first | (go_simp; done) | (go_simp; with_reducible rfl)
              try simp only [Act.put, List.setIfInBounds_toArray, List.set_cons_zero, List.set_cons_succ]
              refine takeH (v := ?_) 7 (some 37) rfl (by kernel_rfl) (by kernel_rfl) (by kernel_rfl) (fun _ _ _ h => h) rfl rfl ?_ hHeld ?_
              rotate_left
              · intro w' hSw; (try dsimp only at hSw); first | (go_simp; done) | (go_simp; with_reducible rfl)
              try simp only [Act.put, List.setIfInBounds_toArray, List.set_cons_zero, List.set_cons_succ]
              refine takeH (v := ?_) 8 (some 38) rfl (by kernel_rfl) (by kernel_rfl) (by kernel_rfl) (fun _ _ _ h => h) rfl rfl ?_ hHeld ?_
              rotate_left
              · intro w' hSw; (try dsimp only at hSw); first | (go_simp; done) | (go_simp; with_reducible rfl)
              try simp only [Act.put, List.setIfInBounds_toArray, List.set_cons_zero, List.set_cons_succ]
              refine takeH (v := ?_) 9 (some 39) rfl (by kernel_rfl) (by kernel_rfl) (by kernel_rfl) (fun _ _ _ h => h) rfl rfl ?_ hHeld ?_
              rotate_left
              · intro w' hSw; (try dsimp only at hSw); first | (go_simp; done) | (go_simp; with_reducible rfl)
              try simp only [Act.put, List.setIfInBounds_toArray, List.set_cons_zero, List.set_cons_succ]
              refine takeH (v := ?_) 11 (some 41) rfl (by kernel_rfl) (by kernel_rfl) (by kernel_rfl) (fun _ _ _ h => h) rfl rfl ?_ hHeld ?_
              rotate_left
              · intro w' hSw; (try dsimp only at hSw); first | (go_simp; done) | (go_simp; with_reducible rfl)
              try simp only [Act.put, List.setIfInBounds_toArray, List.set_cons_zero, List.set_cons_succ]
              refine wpAnyH_ready (rs := [10]) (by kernel_rfl) (by simp) ?_
              refine AllReadyH.cons rfl (fun K hK => ?_) AllReadyH.nil
              go_simp
              refine (KVW.out _ (by first | exact drw | exact hbq)).mono ?_; rintro e wx ⟨rfl, hbx0⟩; have hbx : Below wq.heap.size wq wx := (by first | exact dr.trans hbx0 | exact hbx0)
              go_wp2_with fail
              refine hK.out _ _ (by obtain ⟨a0, a1, a2, a3, a4, a5, a6, a7, a8, a9, a10, a11, a12, a13, a14, a15, a16⟩ := hHeld; exact ⟨cell_later hbx0 a0, cell_later hbx0 a1, cell_later hbx0 a2, cell_later hbx0 a3, cell_later hbx0 a4, cell_later hbx0 a5, cell_later hbx0 a6, cell_later hbx0 a7, cell_later hbx0 a8, cell_later hbx0 a9, cell_later hbx0 a10, cell_later hbx0 a11, cell_later hbx0 a12, cell_later hbx0 a13, cell_later hbx0 a14, cell_later hbx0 a15, cell_later hbx0 a16⟩) (fun hHeld => ?_)
              clear hK K
              try simp only [Act.put, List.setIfInBounds_toArray, List.set_cons_zero, List.set_cons_succ]
              refine takeH (v := ?_) 12 (some 42) rfl (by kernel_rfl) (by kernel_rfl) (by kernel_rfl) (fun _ _ _ h => h) rfl rfl ?_ hHeld ?_
              rotate_left
              · intro w' hSw; (try dsimp only at hSw); first | (go_simp; done) | (go_simp; with_reducible rfl)
              try simp only [Act.put, List.setIfInBounds_toArray, List.set_cons_zero, List.set_cons_succ]
              refine takeH (v := ?_) 13 (some 43) rfl (by kernel_rfl) (by kernel_rfl) (by kernel_rfl) (fun _ _ _ h => h) rfl rfl ?_ hHeld ?_
              rotate_left
              · intro w' hSw; (try dsimp only at hSw); first | (go_simp; done) | (go_simp; with_reducible rfl)
              try simp only [Act.put, List.setIfInBounds_toArray, List.set_cons_zero, List.set_cons_succ]
              refine takeH (v := ?_) 14 (some 44) rfl (by kernel_rfl) (by kernel_rfl) (by kernel_rfl) (fun _ _ _ h => h) rfl rfl ?_ hHeld ?_
              rotate_left
              · intro w' hSw; (try dsimp only at hSw); first | (go_simp; done) | (go_simp; with_reducible rfl)
              try simp only [Act.put, List.setIfInBounds_toArray, List.set_cons_zero, List.set_cons_succ]
              refine skipH 15 (some 45) rfl (by kernel_rfl) (by kernel_rfl) (by kernel_rfl) (fun _ _ _ h => h) rfl rfl hHeld ?_
              try simp only [Act.put, List.setIfInBounds_toArray, List.set_cons_zero, List.set_cons_succ]
              refine skipH 16 (some 46) rfl (by kernel_rfl) (by kernel_rfl) (by kernel_rfl) (fun _ _ _ h => h) rfl rfl hHeld ?_
              try simp only [Act.put, List.setIfInBounds_toArray, List.set_cons_zero, List.set_cons_succ]
              refine skipH 17 (some 47) rfl (by kernel_rfl) (by kernel_rfl) (by kernel_rfl) (fun _ _ _ h => h) rfl rfl hHeld ?_
              try simp only [Act.put, List.setIfInBounds_toArray, List.set_cons_zero, List.set_cons_succ]
              refine skipH 18 (some 48) rfl (by kernel_rfl) (by kernel_rfl) (by kernel_rfl) (fun _ _ _ h => h) rfl rfl hHeld ?_
              try simp only [Act.put, List.setIfInBounds_toArray, List.set_cons_zero, List.set_cons_succ]
              refine skipH 19 (some 49) rfl (by kernel_rfl) (by kernel_rfl) (by kernel_rfl) (fun _ _ _ h => h) rfl rfl hHeld ?_
              try simp only [Act.put, List.setIfInBounds_toArray, List.set_cons_zero, List.set_cons_succ]
              refine skipH 20 (some 50) rfl (by kernel_rfl) (by kernel_rfl) (by kernel_rfl) (fun _ _ _ h => h) rfl rfl hHeld ?_
              try simp only [Act.put, List.setIfInBounds_toArray, List.set_cons_zero, List.set_cons_succ]
              refine skipH 21 (some 51) rfl (by kernel_rfl) (by kernel_rfl) (by kernel_rfl) (fun _ _ _ h => h) rfl rfl hHeld ?_
              try simp only [Act.put, List.setIfInBounds_toArray, List.set_cons_zero, List.set_cons_succ]
              refine skipH 22 (some 52) rfl (by kernel_rfl) (by kernel_rfl) (by kernel_rfl) (fun _ _ _ h => h) rfl rfl hHeld ?_
              try simp only [Act.put, List.setIfInBounds_toArray, List.set_cons_zero, List.set_cons_succ]
              refine skipH 23 (some 53) rfl (by kernel_rfl) (by kernel_rfl) (by kernel_rfl) (fun _ _ _ h => h) rfl rfl hHeld ?_
              try simp only [Act.put, List.setIfInBounds_toArray, List.set_cons_zero, List.set_cons_succ]
              refine skipH 24 (some 54) rfl (by kernel_rfl) (by kernel_rfl) (by kernel_rfl) (fun _ _ _ h => h) rfl rfl hHeld ?_
              try simp only [Act.put, List.setIfInBounds_toArray, List.set_cons_zero, List.set_cons_succ]
              refine skipH 25 (some 55) rfl (by kernel_rfl) (by kernel_rfl) (by kernel_rfl) (fun _ _ _ h => h) rfl rfl hHeld ?_
              try simp only [Act.put, List.setIfInBounds_toArray, List.set_cons_zero, List.set_cons_succ]
              refine skipH 26 (some 56) rfl (by kernel_rfl) (by kernel_rfl) (by kernel_rfl) (fun _ _ _ h => h) rfl rfl hHeld ?_
              try simp only [Act.put, List.setIfInBounds_toArray, List.set_cons_zero, List.set_cons_succ]
              refine skipH 27 (some 57) rfl (by kernel_rfl) (by kernel_rfl) (by kernel_rfl) (fun _ _ _ h => h) rfl rfl hHeld ?_
              try simp only [Act.put, List.setIfInBounds_toArray, List.set_cons_zero, List.set_cons_succ]
              refine skipH 28 (some 58) rfl (by kernel_rfl) (by kernel_rfl) (by kernel_rfl) (fun _ _ _ h => h) rfl rfl hHeld ?_
              try simp only [Act.put, List.setIfInBounds_toArray, List.set_cons_zero, List.set_cons_succ]
              refine skipH 29 (some 59) rfl (by kernel_rfl) (by kernel_rfl) (by kernel_rfl) (fun _ _ _ h => h) rfl rfl hHeld ?_
              try simp only [Act.put, List.setIfInBounds_toArray, List.set_cons_zero, List.set_cons_succ]
              refine takeH (v := ?_) 30 (some 60) rfl (by kernel_rfl) (by kernel_rfl) (by kernel_rfl) (fun _ _ _ h => h) rfl rfl ?_ hHeld ?_
              rotate_left
              · intro w' hSw; (try dsimp only at hSw); first | (go_simp; done) | (go_simp; with_reducible rfl)
              try simp only [Act.put, List.setIfInBounds_toArray, List.set_cons_zero, List.set_cons_succ]
              refine wpAnyH_done (by kernel_rfl) ?_ _
              have HJX : Hid (JV W (w.heap.size + 1) (w.heap.size + 1 + 1) n wx u (TJf k j) (MJf k j)) := JV_below HJQ.out hbx
              have HXX : Hid (vl.rowAt wx ra (RLf k)) := rowAt_below HXQ.out hbx
              have HYX : Hid (vl.rowAt wx rb (RRf j)) := rowAt_below HYQ.out hbx
              have p2 := cell_later hbx q2
              have r2 := cell_later hbx z2
              go_wp2
              go_region_held3 (fun w' => w'.cell? ⟨b, o + k * 2 + 1, none⟩ = some (.slice ra n6 rc2) ∧ w'.cell? ⟨b2, o2 + j * 2 + 1, none⟩ = some (.slice rb n7 rc3)) (first | go_keep | exact ⟨cell_later hb3 p2, cell_later hb3 r2⟩ | exact ⟨t1, t2⟩)
                (first
                  | (go_at_call 21; refine (KB.out (RLf k) (RRf j) _ _ _ _ wx.drew hrl hrr (rowAt_below HXX.out (Below.refl _ _).drew) (rowAt_below HYX.out (Below.refl _ _).drew)).mono ?_; rintro e w3 ⟨⟨ad3, cap3, rfl, hov⟩, hb30⟩; have hb3 := (Below.refl wx.heap.size wx).drew.trans hb30)
                  | (go_at_call 37; refine (KT.out (w.heap.size + 1) (w.heap.size + 1 + 1) (RLf k) (RRf j) ad3 cap3 u _ wx.drew w3 hrl hrr (OV_below HJX.out.one hb3) HLT.out HOKB.out (fun b hb => by have := (huq b hb).2; have := hbx.size; show b < wx.heap.size; omega) hov).mono ?_; rintro e w4 ⟨rfl, ⟨u', ho4⟩, hf4⟩; have hj4 := JV_put (JV_below HJX.out hb3) ho4 hf4; have t1 := cell_later (JV_old hj4 hbW (by omega)) HX2.out; have t2 := cell_later (JV_old hj4 hbW (by omega)) HY2.out))
              all_goals
                have HJ4 : Hid (JV W (w.heap.size + 1) (w.heap.size + 1 + 1) n w4 u' (TJf k j ++ [RLf k ++ RRf j]) (MJf k j)) := hj4
                have hmc := hj4.met j hjl
                have hmf := hj4.frz j
                have g1 := H1.out (by trivial)
                have g3 := H3.out (by trivial)
                have g5 := H5.out (by trivial)
                have G1 : Hid (TJf k (j + 1) = TJf k j ++ [RLf k ++ RRf j]) := g1
                have G3 : Hid (MJf k (j + 1) = fun i => MJf k j i || decide (i = j)) := g3
                have G5 : Hid (AJf k (j + 1) = false) := g5
                clear hj4 g1 g3 g5
                go_wp2
                go_roundw
                case rel => exact ⟨j + 1, u', by omega, by go_num, by rw [G5.out], by rw [G1.out, G3.out]; exact JV_set HJ4.out j hjl⟩
                case measure => simp [intOf]; omega
            | false =>
              have hne : ivers iv ≠ (j : Int) := fun e => by
                have hd := of_decide_eq_false HPW.out.symm
                cases iv with
                | none => exact absurd e (by show (-1 : Int) ≠ (j : Int); omega)
                | some c => exact hd (by have : (c : Int) = (j : Int) := e; congr 1; omega)
              have hne' : (ivers iv == (j : Int)) = false := by rw [beq_eq_false_iff_ne]; exact hne
              clear hne
              have tc := pl.eql_is (x := ivers iv) (y := (j : Int)) false hne'
              go_wp2
              refine wp_region_held_drew (S := fun w' => w'.cell? ⟨w.heap.size, 0, none⟩ = some (.int .i64 3) ∧ w'.cell? ⟨w.heap.size, 1, none⟩ = some (.int .i64 mode) ∧ w'.cell? ⟨w.heap.size, 2, none⟩ = some (.int .i64 low) ∧ w'.cell? ⟨w.heap.size, 3, none⟩ = some (.int .i64 high) ∧ w'.cell? ⟨w.heap.size, 4, none⟩ = some (.int .i64 size) ∧ w'.cell? ⟨w.heap.size, 5, none⟩ = some (.int .i64 limit) ∧ w'.cell? ⟨w.heap.size, 6, none⟩ = some (.slice la n6 lc) ∧ w'.cell? ⟨w.heap.size, 7, none⟩ = some (.slice rr n7 rc) ∧ w'.cell? ⟨w.heap.size, 8, none⟩ = some (.slice lk n8 lkc) ∧ w'.cell? ⟨w.heap.size, 9, none⟩ = some (.slice rk n9 rkc) ∧ w'.cell? ⟨w.heap.size, 10, none⟩ = some (.bool grouped) ∧ w'.cell? ⟨w.heap.size, 11, none⟩ = some (.slice g n11 gc) ∧ w'.cell? ⟨w.heap.size, 12, none⟩ = some (.slice ag n12 ac) ∧ w'.cell? ⟨b, o + k * 2, none⟩ = some (.int .i64 tv) ∧ w'.cell? ⟨b, o + k * 2 + 1, none⟩ = some (.slice ra n6 rc2) ∧ w'.cell? ⟨b2, o2 + j * 2, none⟩ = some (.int .i64 tr) ∧ w'.cell? ⟨b2, o2 + j * 2 + 1, none⟩ = some (.slice rb n7 rc3)) (by kernel_rfl) ⟨c0, c1, c2, c3, c4, c5, c6, c7, c8, c9, c10, c11, c12, q1, q2, z1, z2⟩ (fun hHeld => ?_)
              refine takeH (v := ?_) 0 (some 30) rfl (by kernel_rfl) (by kernel_rfl) (by kernel_rfl) (fun _ _ _ h => h) rfl rfl ?_ hHeld ?_
              rotate_left
              · intro w' hSw; (try dsimp only at hSw); first | (go_simp; done) | (go_simp; with_reducible rfl)
              try simp only [Act.put, List.setIfInBounds_toArray, List.set_cons_zero, List.set_cons_succ]
              refine takeH (v := ?_) 1 (some 31) rfl (by kernel_rfl) (by kernel_rfl) (by kernel_rfl) (fun _ _ _ h => h) rfl rfl ?_ hHeld ?_
              rotate_left
              · intro w' hSw; (try dsimp only at hSw); first | (go_simp; done) | (go_simp; with_reducible rfl)
              try simp only [Act.put, List.setIfInBounds_toArray, List.set_cons_zero, List.set_cons_succ]
              refine takeH (v := ?_) 2 (some 32) rfl (by kernel_rfl) (by kernel_rfl) (by kernel_rfl) (fun _ _ _ h => h) rfl rfl ?_ hHeld ?_
              rotate_left
              · intro w' hSw; (try dsimp only at hSw); first | (go_simp; done) | (go_simp; with_reducible rfl)
              try simp only [Act.put, List.setIfInBounds_toArray, List.set_cons_zero, List.set_cons_succ]
              refine takeH (v := ?_) 3 (some 33) rfl (by kernel_rfl) (by kernel_rfl) (by kernel_rfl) (fun _ _ _ h => h) rfl rfl ?_ hHeld ?_
              rotate_left
              · intro w' hSw; (try dsimp only at hSw); first | (go_simp; done) | (go_simp; with_reducible rfl)
              try simp only [Act.put, List.setIfInBounds_toArray, List.set_cons_zero, List.set_cons_succ]
              refine takeH (v := ?_) 4 (some 34) rfl (by kernel_rfl) (by kernel_rfl) (by kernel_rfl) (fun _ _ _ h => h) rfl rfl ?_ hHeld ?_
              rotate_left
              · intro w' hSw; (try dsimp only at hSw); first | (go_simp; done) | (go_simp; with_reducible rfl)
              try simp only [Act.put, List.setIfInBounds_toArray, List.set_cons_zero, List.set_cons_succ]
              refine takeH (v := ?_) 5 (some 35) rfl (by kernel_rfl) (by kernel_rfl) (by kernel_rfl) (fun _ _ _ h => h) rfl rfl ?_ hHeld ?_
              rotate_left
              · intro w' hSw; (try dsimp only at hSw); first | (go_simp; done) | (go_simp; with_reducible rfl)
              try simp only [Act.put, List.setIfInBounds_toArray, List.set_cons_zero, List.set_cons_succ]
              refine takeH (v := ?_) 6 (some 36) rfl (by kernel_rfl) (by kernel_rfl) (by kernel_rfl) (fun _ _ _ h => h) rfl rfl ?_ hHeld ?_
              rotate_left
              · intro w' hSw; (try dsimp only at hSw); first | (go_simp; done) | (go_simp; with_reducible rfl)
              try simp only [Act.put, List.setIfInBounds_toArray, List.set_cons_zero, List.set_cons_succ]
              refine takeH (v := ?_) 7 (some 37) rfl (by kernel_rfl) (by kernel_rfl) (by kernel_rfl) (fun _ _ _ h => h) rfl rfl ?_ hHeld ?_
              rotate_left
              · intro w' hSw; (try dsimp only at hSw); first | (go_simp; done) | (go_simp; with_reducible rfl)
              try simp only [Act.put, List.setIfInBounds_toArray, List.set_cons_zero, List.set_cons_succ]
              refine takeH (v := ?_) 8 (some 38) rfl (by kernel_rfl) (by kernel_rfl) (by kernel_rfl) (fun _ _ _ h => h) rfl rfl ?_ hHeld ?_
              rotate_left
              · intro w' hSw; (try dsimp only at hSw); first | (go_simp; done) | (go_simp; with_reducible rfl)
              try simp only [Act.put, List.setIfInBounds_toArray, List.set_cons_zero, List.set_cons_succ]
              refine takeH (v := ?_) 9 (some 39) rfl (by kernel_rfl) (by kernel_rfl) (by kernel_rfl) (fun _ _ _ h => h) rfl rfl ?_ hHeld ?_
              rotate_left
              · intro w' hSw; (try dsimp only at hSw); first | (go_simp; done) | (go_simp; with_reducible rfl)
              try simp only [Act.put, List.setIfInBounds_toArray, List.set_cons_zero, List.set_cons_succ]
              refine takeH (v := ?_) 11 (some 41) rfl (by kernel_rfl) (by kernel_rfl) (by kernel_rfl) (fun _ _ _ h => h) rfl rfl ?_ hHeld ?_
              rotate_left
              · intro w' hSw; (try dsimp only at hSw); first | (go_simp; done) | (go_simp; with_reducible rfl)
              try simp only [Act.put, List.setIfInBounds_toArray, List.set_cons_zero, List.set_cons_succ]
              refine wpAnyH_ready (rs := [10]) (by kernel_rfl) (by simp) ?_
              refine AllReadyH.cons rfl (fun K hK => ?_) AllReadyH.nil
              go_simp
              refine (KVW.out _ (by first | exact drw | exact hbq)).mono ?_; rintro e wx ⟨rfl, hbx0⟩; have hbx : Below wq.heap.size wq wx := (by first | exact dr.trans hbx0 | exact hbx0)
              go_wp2_with fail
              refine hK.out _ _ (by obtain ⟨a0, a1, a2, a3, a4, a5, a6, a7, a8, a9, a10, a11, a12, a13, a14, a15, a16⟩ := hHeld; exact ⟨cell_later hbx0 a0, cell_later hbx0 a1, cell_later hbx0 a2, cell_later hbx0 a3, cell_later hbx0 a4, cell_later hbx0 a5, cell_later hbx0 a6, cell_later hbx0 a7, cell_later hbx0 a8, cell_later hbx0 a9, cell_later hbx0 a10, cell_later hbx0 a11, cell_later hbx0 a12, cell_later hbx0 a13, cell_later hbx0 a14, cell_later hbx0 a15, cell_later hbx0 a16⟩) (fun hHeld => ?_)
              clear hK K
              try simp only [Act.put, List.setIfInBounds_toArray, List.set_cons_zero, List.set_cons_succ]
              refine takeH (v := ?_) 12 (some 42) rfl (by kernel_rfl) (by kernel_rfl) (by kernel_rfl) (fun _ _ _ h => h) rfl rfl ?_ hHeld ?_
              rotate_left
              · intro w' hSw; (try dsimp only at hSw); first | (go_simp; done) | (go_simp; with_reducible rfl)
              try simp only [Act.put, List.setIfInBounds_toArray, List.set_cons_zero, List.set_cons_succ]
              refine takeH (v := ?_) 13 (some 43) rfl (by kernel_rfl) (by kernel_rfl) (by kernel_rfl) (fun _ _ _ h => h) rfl rfl ?_ hHeld ?_
              rotate_left
              · intro w' hSw; (try dsimp only at hSw); first | (go_simp; done) | (go_simp; with_reducible rfl)
              try simp only [Act.put, List.setIfInBounds_toArray, List.set_cons_zero, List.set_cons_succ]
              refine takeH (v := ?_) 14 (some 44) rfl (by kernel_rfl) (by kernel_rfl) (by kernel_rfl) (fun _ _ _ h => h) rfl rfl ?_ hHeld ?_
              rotate_left
              · intro w' hSw; (try dsimp only at hSw); first | (go_simp; done) | (go_simp; with_reducible rfl)
              try simp only [Act.put, List.setIfInBounds_toArray, List.set_cons_zero, List.set_cons_succ]
              refine takeH (v := ?_) 15 (some 45) rfl (by kernel_rfl) (by kernel_rfl) (by kernel_rfl) (fun _ _ _ h => h) rfl rfl ?_ hHeld ?_
              rotate_left
              · intro w' hSw; (try dsimp only at hSw); first | (go_simp; done) | (go_simp; with_reducible rfl)
              try simp only [Act.put, List.setIfInBounds_toArray, List.set_cons_zero, List.set_cons_succ]
              refine takeH (v := ?_) 16 (some 46) rfl (by kernel_rfl) (by kernel_rfl) (by kernel_rfl) (fun _ _ _ h => h) rfl rfl ?_ hHeld ?_
              rotate_left
              · intro w' hSw; (try dsimp only at hSw); first | (go_simp; done) | (go_simp; with_reducible rfl)
              try simp only [Act.put, List.setIfInBounds_toArray, List.set_cons_zero, List.set_cons_succ]
              refine takeH (v := ?_) 17 (some 47) rfl (by kernel_rfl) (by kernel_rfl) (by kernel_rfl) (fun _ _ _ h => h) rfl rfl ?_ hHeld ?_
              rotate_left
              · intro w' hSw; (try dsimp only at hSw); first | (go_simp; done) | (go_simp; with_reducible rfl)
              try simp only [Act.put, List.setIfInBounds_toArray, List.set_cons_zero, List.set_cons_succ]
              refine takeH (v := ?_) 18 (some 48) rfl (by kernel_rfl) (by kernel_rfl) (by kernel_rfl) (fun _ _ _ h => h) rfl rfl ?_ hHeld ?_
              rotate_left
              · intro w' hSw; (try dsimp only at hSw); first | (go_simp; done) | (go_simp; with_reducible rfl)
              try simp only [Act.put, List.setIfInBounds_toArray, List.set_cons_zero, List.set_cons_succ]
              refine skipH 19 (some 49) rfl (by kernel_rfl) (by kernel_rfl) (by kernel_rfl) (fun _ _ _ h => h) rfl rfl hHeld ?_
              try simp only [Act.put, List.setIfInBounds_toArray, List.set_cons_zero, List.set_cons_succ]
              refine skipH 20 (some 50) rfl (by kernel_rfl) (by kernel_rfl) (by kernel_rfl) (fun _ _ _ h => h) rfl rfl hHeld ?_
              try simp only [Act.put, List.setIfInBounds_toArray, List.set_cons_zero, List.set_cons_succ]
              refine skipH 21 (some 51) rfl (by kernel_rfl) (by kernel_rfl) (by kernel_rfl) (fun _ _ _ h => h) rfl rfl hHeld ?_
              try simp only [Act.put, List.setIfInBounds_toArray, List.set_cons_zero, List.set_cons_succ]
              refine skipH 22 (some 52) rfl (by kernel_rfl) (by kernel_rfl) (by kernel_rfl) (fun _ _ _ h => h) rfl rfl hHeld ?_
              try simp only [Act.put, List.setIfInBounds_toArray, List.set_cons_zero, List.set_cons_succ]
              refine skipH 23 (some 53) rfl (by kernel_rfl) (by kernel_rfl) (by kernel_rfl) (fun _ _ _ h => h) rfl rfl hHeld ?_
              try simp only [Act.put, List.setIfInBounds_toArray, List.set_cons_zero, List.set_cons_succ]
              refine skipH 24 (some 54) rfl (by kernel_rfl) (by kernel_rfl) (by kernel_rfl) (fun _ _ _ h => h) rfl rfl hHeld ?_
              try simp only [Act.put, List.setIfInBounds_toArray, List.set_cons_zero, List.set_cons_succ]
              refine skipH 25 (some 55) rfl (by kernel_rfl) (by kernel_rfl) (by kernel_rfl) (fun _ _ _ h => h) rfl rfl hHeld ?_
              try simp only [Act.put, List.setIfInBounds_toArray, List.set_cons_zero, List.set_cons_succ]
              refine skipH 26 (some 56) rfl (by kernel_rfl) (by kernel_rfl) (by kernel_rfl) (fun _ _ _ h => h) rfl rfl hHeld ?_
              try simp only [Act.put, List.setIfInBounds_toArray, List.set_cons_zero, List.set_cons_succ]
              refine skipH 27 (some 57) rfl (by kernel_rfl) (by kernel_rfl) (by kernel_rfl) (fun _ _ _ h => h) rfl rfl hHeld ?_
              try simp only [Act.put, List.setIfInBounds_toArray, List.set_cons_zero, List.set_cons_succ]
              refine skipH 28 (some 58) rfl (by kernel_rfl) (by kernel_rfl) (by kernel_rfl) (fun _ _ _ h => h) rfl rfl hHeld ?_
              try simp only [Act.put, List.setIfInBounds_toArray, List.set_cons_zero, List.set_cons_succ]
              refine takeH (v := ?_) 29 (some 59) rfl (by kernel_rfl) (by kernel_rfl) (by kernel_rfl) (fun _ _ _ h => h) rfl rfl ?_ hHeld ?_
              rotate_left
              · intro w' hSw; (try dsimp only at hSw); first | (go_simp; done) | (go_simp; with_reducible rfl)
              try simp only [Act.put, List.setIfInBounds_toArray, List.set_cons_zero, List.set_cons_succ]
              refine takeH (v := ?_) 30 (some 60) rfl (by kernel_rfl) (by kernel_rfl) (by kernel_rfl) (fun _ _ _ h => h) rfl rfl ?_ hHeld ?_
              rotate_left
              · intro w' hSw; (try dsimp only at hSw); first | (go_simp; done) | (go_simp; with_reducible rfl)
              try simp only [Act.put, List.setIfInBounds_toArray, List.set_cons_zero, List.set_cons_succ]
              refine wpAnyH_done (by kernel_rfl) ?_ _
              have HJX : Hid (JV W (w.heap.size + 1) (w.heap.size + 1 + 1) n wx u (TJf k j) (MJf k j)) := JV_below HJQ.out hbx
              have HXX : Hid (vl.rowAt wx ra (RLf k)) := rowAt_below HXQ.out hbx
              have HYX : Hid (vl.rowAt wx rb (RRf j)) := rowAt_below HYQ.out hbx
              have p2 := cell_later hbx q2
              have r2 := cell_later hbx z2
              have g2 := H2.out (by trivial)
              have g4 := H4.out (by trivial)
              have g6 := H6.out (by trivial)
              have G2 : Hid (TJf k (j + 1) = TJf k j) := g2
              have G4 : Hid (MJf k (j + 1) = MJf k j) := g4
              have G6 : Hid (AJf k (j + 1) = AJf k j) := g6
              clear g2 g4 g6
              go_wp2
              go_roundw
              case rel => exact ⟨j + 1, u, by omega, by go_num, by rw [G6.out], by rw [G2.out, G4.out]; exact HJX.out⟩
              case measure => simp [intOf]; omega

          · have hk3' : (kind == 3) = false := by rw [beq_eq_false_iff_ne]; exact hk3
            have hk3n : (kind != 3) = true := by simpa using hk3
            have KVV := KPj.out hk3
            have KPW : Hid (∀ w1, Below w.heap.size w w1 → _) := KVV
            have ta := pl.eql_is (x := kind) (y := 3) false hk3'
            have tb := pl.neq_is (x := kind) (y := 3) true hk3n
            clear KVV KVj HPVk KPj hk3
            cases pb with
            | true =>
              go_wp2
              refine wp_region_held_drew (S := fun w' => w'.cell? ⟨w.heap.size, 0, none⟩ = some (.int .i64 kind) ∧ w'.cell? ⟨w.heap.size, 1, none⟩ = some (.int .i64 mode) ∧ w'.cell? ⟨w.heap.size, 2, none⟩ = some (.int .i64 low) ∧ w'.cell? ⟨w.heap.size, 3, none⟩ = some (.int .i64 high) ∧ w'.cell? ⟨w.heap.size, 4, none⟩ = some (.int .i64 size) ∧ w'.cell? ⟨w.heap.size, 5, none⟩ = some (.int .i64 limit) ∧ w'.cell? ⟨w.heap.size, 6, none⟩ = some (.slice la n6 lc) ∧ w'.cell? ⟨w.heap.size, 7, none⟩ = some (.slice rr n7 rc) ∧ w'.cell? ⟨w.heap.size, 8, none⟩ = some (.slice lk n8 lkc) ∧ w'.cell? ⟨w.heap.size, 9, none⟩ = some (.slice rk n9 rkc) ∧ w'.cell? ⟨w.heap.size, 10, none⟩ = some (.bool grouped) ∧ w'.cell? ⟨w.heap.size, 11, none⟩ = some (.slice g n11 gc) ∧ w'.cell? ⟨w.heap.size, 12, none⟩ = some (.slice ag n12 ac) ∧ w'.cell? ⟨b, o + k * 2, none⟩ = some (.int .i64 tv) ∧ w'.cell? ⟨b, o + k * 2 + 1, none⟩ = some (.slice ra n6 rc2) ∧ w'.cell? ⟨b2, o2 + j * 2, none⟩ = some (.int .i64 tr) ∧ w'.cell? ⟨b2, o2 + j * 2 + 1, none⟩ = some (.slice rb n7 rc3)) (by kernel_rfl) ⟨c0, c1, c2, c3, c4, c5, c6, c7, c8, c9, c10, c11, c12, q1, q2, z1, z2⟩ (fun hHeld => ?_)
              refine takeH (v := ?_) 0 (some 30) rfl (by kernel_rfl) (by kernel_rfl) (by kernel_rfl) (fun _ _ _ h => h) rfl rfl ?_ hHeld ?_
              rotate_left
              · intro w' hSw; (try dsimp only at hSw); first | (go_simp; done) | (go_simp; with_reducible rfl)
              try simp only [Act.put, List.setIfInBounds_toArray, List.set_cons_zero, List.set_cons_succ]
              refine takeH (v := ?_) 1 (some 31) rfl (by kernel_rfl) (by kernel_rfl) (by kernel_rfl) (fun _ _ _ h => h) rfl rfl ?_ hHeld ?_
              rotate_left
              · intro w' hSw; (try dsimp only at hSw); first | (go_simp; done) | (go_simp; with_reducible rfl)
              try simp only [Act.put, List.setIfInBounds_toArray, List.set_cons_zero, List.set_cons_succ]
              refine takeH (v := ?_) 2 (some 32) rfl (by kernel_rfl) (by kernel_rfl) (by kernel_rfl) (fun _ _ _ h => h) rfl rfl ?_ hHeld ?_
              rotate_left
              · intro w' hSw; (try dsimp only at hSw); first | (go_simp; done) | (go_simp; with_reducible rfl)
              try simp only [Act.put, List.setIfInBounds_toArray, List.set_cons_zero, List.set_cons_succ]
              refine takeH (v := ?_) 3 (some 33) rfl (by kernel_rfl) (by kernel_rfl) (by kernel_rfl) (fun _ _ _ h => h) rfl rfl ?_ hHeld ?_
              rotate_left
              · intro w' hSw; (try dsimp only at hSw); first | (go_simp; done) | (go_simp; with_reducible rfl)
              try simp only [Act.put, List.setIfInBounds_toArray, List.set_cons_zero, List.set_cons_succ]
              refine skipH 4 (some 34) rfl (by kernel_rfl) (by kernel_rfl) (by kernel_rfl) (fun _ _ _ h => h) rfl rfl hHeld ?_
              try simp only [Act.put, List.setIfInBounds_toArray, List.set_cons_zero, List.set_cons_succ]
              refine skipH 5 (some 35) rfl (by kernel_rfl) (by kernel_rfl) (by kernel_rfl) (fun _ _ _ h => h) rfl rfl hHeld ?_
              try simp only [Act.put, List.setIfInBounds_toArray, List.set_cons_zero, List.set_cons_succ]
              refine skipH 6 (some 36) rfl (by kernel_rfl) (by kernel_rfl) (by kernel_rfl) (fun _ _ _ h => h) rfl rfl hHeld ?_
              try simp only [Act.put, List.setIfInBounds_toArray, List.set_cons_zero, List.set_cons_succ]
              refine skipH 7 (some 37) rfl (by kernel_rfl) (by kernel_rfl) (by kernel_rfl) (fun _ _ _ h => h) rfl rfl hHeld ?_
              try simp only [Act.put, List.setIfInBounds_toArray, List.set_cons_zero, List.set_cons_succ]
              refine skipH 8 (some 38) rfl (by kernel_rfl) (by kernel_rfl) (by kernel_rfl) (fun _ _ _ h => h) rfl rfl hHeld ?_
              try simp only [Act.put, List.setIfInBounds_toArray, List.set_cons_zero, List.set_cons_succ]
              refine skipH 9 (some 39) rfl (by kernel_rfl) (by kernel_rfl) (by kernel_rfl) (fun _ _ _ h => h) rfl rfl hHeld ?_
              try simp only [Act.put, List.setIfInBounds_toArray, List.set_cons_zero, List.set_cons_succ]
              refine skipH 10 (some 40) rfl (by kernel_rfl) (by kernel_rfl) (by kernel_rfl) (fun _ _ _ h => h) rfl rfl hHeld ?_
              try simp only [Act.put, List.setIfInBounds_toArray, List.set_cons_zero, List.set_cons_succ]
              refine skipH 11 (some 41) rfl (by kernel_rfl) (by kernel_rfl) (by kernel_rfl) (fun _ _ _ h => h) rfl rfl hHeld ?_
              try simp only [Act.put, List.setIfInBounds_toArray, List.set_cons_zero, List.set_cons_succ]
              refine skipH 12 (some 42) rfl (by kernel_rfl) (by kernel_rfl) (by kernel_rfl) (fun _ _ _ h => h) rfl rfl hHeld ?_
              try simp only [Act.put, List.setIfInBounds_toArray, List.set_cons_zero, List.set_cons_succ]
              refine takeH (v := ?_) 13 (some 43) rfl (by kernel_rfl) (by kernel_rfl) (by kernel_rfl) (fun _ _ _ h => h) rfl rfl ?_ hHeld ?_
              rotate_left
              · intro w' hSw; (try dsimp only at hSw); first | (go_simp; done) | (go_simp; with_reducible rfl)
              try simp only [Act.put, List.setIfInBounds_toArray, List.set_cons_zero, List.set_cons_succ]
              refine takeH (v := ?_) 14 (some 44) rfl (by kernel_rfl) (by kernel_rfl) (by kernel_rfl) (fun _ _ _ h => h) rfl rfl ?_ hHeld ?_
              rotate_left
              · intro w' hSw; (try dsimp only at hSw); first | (go_simp; done) | (go_simp; with_reducible rfl)
              try simp only [Act.put, List.setIfInBounds_toArray, List.set_cons_zero, List.set_cons_succ]
              refine takeH (v := ?_) 15 (some 45) rfl (by kernel_rfl) (by kernel_rfl) (by kernel_rfl) (fun _ _ _ h => h) rfl rfl ?_ hHeld ?_
              rotate_left
              · intro w' hSw; (try dsimp only at hSw); first | (go_simp; done) | (go_simp; with_reducible rfl)
              try simp only [Act.put, List.setIfInBounds_toArray, List.set_cons_zero, List.set_cons_succ]
              refine takeH (v := ?_) 16 (some 46) rfl (by kernel_rfl) (by kernel_rfl) (by kernel_rfl) (fun _ _ _ h => h) rfl rfl ?_ hHeld ?_
              rotate_left
              · intro w' hSw; (try dsimp only at hSw); first | (go_simp; done) | (go_simp; with_reducible rfl)
              try simp only [Act.put, List.setIfInBounds_toArray, List.set_cons_zero, List.set_cons_succ]
              refine takeH (v := ?_) 17 (some 47) rfl (by kernel_rfl) (by kernel_rfl) (by kernel_rfl) (fun _ _ _ h => h) rfl rfl ?_ hHeld ?_
              rotate_left
              · intro w' hSw; (try dsimp only at hSw); first | (go_simp; done) | (go_simp; with_reducible rfl)
              try simp only [Act.put, List.setIfInBounds_toArray, List.set_cons_zero, List.set_cons_succ]
              refine takeH (v := ?_) 18 (some 48) rfl (by kernel_rfl) (by kernel_rfl) (by kernel_rfl) (fun _ _ _ h => h) rfl rfl ?_ hHeld ?_
              rotate_left
              · intro w' hSw; (try dsimp only at hSw); first | (go_simp; done) | (go_simp; with_reducible rfl)
              try simp only [Act.put, List.setIfInBounds_toArray, List.set_cons_zero, List.set_cons_succ]
              refine takeH (v := ?_) 19 (some 49) rfl (by kernel_rfl) (by kernel_rfl) (by kernel_rfl) (fun _ _ _ h => h) rfl rfl ?_ hHeld ?_
              rotate_left
              · intro w' hSw; (try dsimp only at hSw); first | (go_simp; done) | (go_simp; with_reducible rfl)
              try simp only [Act.put, List.setIfInBounds_toArray, List.set_cons_zero, List.set_cons_succ]
              refine takeH (v := ?_) 20 (some 50) rfl (by kernel_rfl) (by kernel_rfl) (by kernel_rfl) (fun _ _ _ h => h) rfl rfl ?_ hHeld ?_
              rotate_left
              · intro w' hSw; (try dsimp only at hSw); first | (go_simp; done) | (go_simp; with_reducible rfl)
              try simp only [Act.put, List.setIfInBounds_toArray, List.set_cons_zero, List.set_cons_succ]
              refine takeH (v := ?_) 21 (some 51) rfl (by kernel_rfl) (by kernel_rfl) (by kernel_rfl) (fun _ _ _ h => h) rfl rfl ?_ hHeld ?_
              rotate_left
              · intro w' hSw; (try dsimp only at hSw); first | (go_simp; done) | (go_simp; with_reducible rfl)
              try simp only [Act.put, List.setIfInBounds_toArray, List.set_cons_zero, List.set_cons_succ]
              refine takeH (v := ?_) 22 (some 52) rfl (by kernel_rfl) (by kernel_rfl) (by kernel_rfl) (fun _ _ _ h => h) rfl rfl ?_ hHeld ?_
              rotate_left
              · intro w' hSw; (try dsimp only at hSw); first | (go_simp; done) | (go_simp; with_reducible rfl)
              try simp only [Act.put, List.setIfInBounds_toArray, List.set_cons_zero, List.set_cons_succ]
              refine takeH (v := ?_) 23 (some 53) rfl (by kernel_rfl) (by kernel_rfl) (by kernel_rfl) (fun _ _ _ h => h) rfl rfl ?_ hHeld ?_
              rotate_left
              · intro w' hSw; (try dsimp only at hSw); first | (go_simp; done) | (go_simp; with_reducible rfl)
              try simp only [Act.put, List.setIfInBounds_toArray, List.set_cons_zero, List.set_cons_succ]
              refine takeH (v := ?_) 24 (some 54) rfl (by kernel_rfl) (by kernel_rfl) (by kernel_rfl) (fun _ _ _ h => h) rfl rfl ?_ hHeld ?_
              rotate_left
              · intro w' hSw; (try dsimp only at hSw); first | (go_simp; done) | (go_simp; with_reducible rfl)
              try simp only [Act.put, List.setIfInBounds_toArray, List.set_cons_zero, List.set_cons_succ]
              refine takeH (v := ?_) 25 (some 55) rfl (by kernel_rfl) (by kernel_rfl) (by kernel_rfl) (fun _ _ _ h => h) rfl rfl ?_ hHeld ?_
              rotate_left
              · intro w' hSw; (try dsimp only at hSw); first | (go_simp; done) | (go_simp; with_reducible rfl)
              try simp only [Act.put, List.setIfInBounds_toArray, List.set_cons_zero, List.set_cons_succ]
              refine takeH (v := ?_) 26 (some 56) rfl (by kernel_rfl) (by kernel_rfl) (by kernel_rfl) (fun _ _ _ h => h) rfl rfl ?_ hHeld ?_
              rotate_left
              · intro w' hSw; (try dsimp only at hSw); first | (go_simp; done) | (go_simp; with_reducible rfl)
              try simp only [Act.put, List.setIfInBounds_toArray, List.set_cons_zero, List.set_cons_succ]
              refine takeH (v := ?_) 27 (some 57) rfl (by kernel_rfl) (by kernel_rfl) (by kernel_rfl) (fun _ _ _ h => h) rfl rfl ?_ hHeld ?_
              rotate_left
              · intro w' hSw; (try dsimp only at hSw); first | (go_simp; done) | (go_simp; with_reducible rfl)
              try simp only [Act.put, List.setIfInBounds_toArray, List.set_cons_zero, List.set_cons_succ]
              refine wpAnyH_ready (rs := [28]) (by kernel_rfl) (by simp) ?_
              refine AllReadyH.cons rfl (fun K hK => ?_) AllReadyH.nil
              go_simp
              refine (KPW.out _ (by first | exact drw | exact hbq)).mono ?_; rintro e wx ⟨rfl, hbx0⟩; have hbx : Below wq.heap.size wq wx := (by first | exact dr.trans hbx0 | exact hbx0)
              go_wp2_with fail
              refine hK.out _ _ (by obtain ⟨a0, a1, a2, a3, a4, a5, a6, a7, a8, a9, a10, a11, a12, a13, a14, a15, a16⟩ := hHeld; exact ⟨cell_later hbx0 a0, cell_later hbx0 a1, cell_later hbx0 a2, cell_later hbx0 a3, cell_later hbx0 a4, cell_later hbx0 a5, cell_later hbx0 a6, cell_later hbx0 a7, cell_later hbx0 a8, cell_later hbx0 a9, cell_later hbx0 a10, cell_later hbx0 a11, cell_later hbx0 a12, cell_later hbx0 a13, cell_later hbx0 a14, cell_later hbx0 a15, cell_later hbx0 a16⟩) (fun hHeld => ?_)
              clear hK K
              try simp only [Act.put, List.setIfInBounds_toArray, List.set_cons_zero, List.set_cons_succ]
              refine takeH (v := ?_) 29 (some 59) rfl (by kernel_rfl) (by kernel_rfl) (by kernel_rfl) (fun _ _ _ h => h) rfl rfl ?_ hHeld ?_
              rotate_left
              · intro w' hSw; (try dsimp only at hSw); first | (go_simp; done) | (go_simp; with_reducible rfl)
              try simp only [Act.put, List.setIfInBounds_toArray, List.set_cons_zero, List.set_cons_succ]
              refine takeH (v := ?_) 30 (some 60) rfl (by kernel_rfl) (by kernel_rfl) (by kernel_rfl) (fun _ _ _ h => h) rfl rfl ?_ hHeld ?_
              rotate_left
              · intro w' hSw; (try dsimp only at hSw); first | (go_simp; done) | (go_simp; with_reducible rfl)
              try simp only [Act.put, List.setIfInBounds_toArray, List.set_cons_zero, List.set_cons_succ]
              refine wpAnyH_done (by kernel_rfl) ?_ _
              have HJX : Hid (JV W (w.heap.size + 1) (w.heap.size + 1 + 1) n wx u (TJf k j) (MJf k j)) := JV_below HJQ.out hbx
              have HXX : Hid (vl.rowAt wx ra (RLf k)) := rowAt_below HXQ.out hbx
              have HYX : Hid (vl.rowAt wx rb (RRf j)) := rowAt_below HYQ.out hbx
              have p2 := cell_later hbx q2
              have r2 := cell_later hbx z2
              go_wp2
              go_region_held3 (fun w' => w'.cell? ⟨b, o + k * 2 + 1, none⟩ = some (.slice ra n6 rc2) ∧ w'.cell? ⟨b2, o2 + j * 2 + 1, none⟩ = some (.slice rb n7 rc3)) (first | go_keep | exact ⟨cell_later hb3 p2, cell_later hb3 r2⟩ | exact ⟨t1, t2⟩)
                (first
                  | (go_at_call 21; refine (KB.out (RLf k) (RRf j) _ _ _ _ wx.drew hrl hrr (rowAt_below HXX.out (Below.refl _ _).drew) (rowAt_below HYX.out (Below.refl _ _).drew)).mono ?_; rintro e w3 ⟨⟨ad3, cap3, rfl, hov⟩, hb30⟩; have hb3 := (Below.refl wx.heap.size wx).drew.trans hb30)
                  | (go_at_call 37; refine (KT.out (w.heap.size + 1) (w.heap.size + 1 + 1) (RLf k) (RRf j) ad3 cap3 u _ wx.drew w3 hrl hrr (OV_below HJX.out.one hb3) HLT.out HOKB.out (fun b hb => by have := (huq b hb).2; have := hbx.size; show b < wx.heap.size; omega) hov).mono ?_; rintro e w4 ⟨rfl, ⟨u', ho4⟩, hf4⟩; have hj4 := JV_put (JV_below HJX.out hb3) ho4 hf4; have t1 := cell_later (JV_old hj4 hbW (by omega)) HX2.out; have t2 := cell_later (JV_old hj4 hbW (by omega)) HY2.out))
              all_goals
                have HJ4 : Hid (JV W (w.heap.size + 1) (w.heap.size + 1 + 1) n w4 u' (TJf k j ++ [RLf k ++ RRf j]) (MJf k j)) := hj4
                have hmc := hj4.met j hjl
                have hmf := hj4.frz j
                have g1 := H1.out (by trivial)
                have g3 := H3.out (by trivial)
                have g5 := H5.out (by trivial)
                have G1 : Hid (TJf k (j + 1) = TJf k j ++ [RLf k ++ RRf j]) := g1
                have G3 : Hid (MJf k (j + 1) = fun i => MJf k j i || decide (i = j)) := g3
                have G5 : Hid (AJf k (j + 1) = false) := g5
                clear hj4 g1 g3 g5
                go_wp2
                go_roundw
                case rel => exact ⟨j + 1, u', by omega, by go_num, by rw [G5.out], by rw [G1.out, G3.out]; exact JV_set HJ4.out j hjl⟩
                case measure => simp [intOf]; omega
            | false =>
              go_wp2
              refine wp_region_held_drew (S := fun w' => w'.cell? ⟨w.heap.size, 0, none⟩ = some (.int .i64 kind) ∧ w'.cell? ⟨w.heap.size, 1, none⟩ = some (.int .i64 mode) ∧ w'.cell? ⟨w.heap.size, 2, none⟩ = some (.int .i64 low) ∧ w'.cell? ⟨w.heap.size, 3, none⟩ = some (.int .i64 high) ∧ w'.cell? ⟨w.heap.size, 4, none⟩ = some (.int .i64 size) ∧ w'.cell? ⟨w.heap.size, 5, none⟩ = some (.int .i64 limit) ∧ w'.cell? ⟨w.heap.size, 6, none⟩ = some (.slice la n6 lc) ∧ w'.cell? ⟨w.heap.size, 7, none⟩ = some (.slice rr n7 rc) ∧ w'.cell? ⟨w.heap.size, 8, none⟩ = some (.slice lk n8 lkc) ∧ w'.cell? ⟨w.heap.size, 9, none⟩ = some (.slice rk n9 rkc) ∧ w'.cell? ⟨w.heap.size, 10, none⟩ = some (.bool grouped) ∧ w'.cell? ⟨w.heap.size, 11, none⟩ = some (.slice g n11 gc) ∧ w'.cell? ⟨w.heap.size, 12, none⟩ = some (.slice ag n12 ac) ∧ w'.cell? ⟨b, o + k * 2, none⟩ = some (.int .i64 tv) ∧ w'.cell? ⟨b, o + k * 2 + 1, none⟩ = some (.slice ra n6 rc2) ∧ w'.cell? ⟨b2, o2 + j * 2, none⟩ = some (.int .i64 tr) ∧ w'.cell? ⟨b2, o2 + j * 2 + 1, none⟩ = some (.slice rb n7 rc3)) (by kernel_rfl) ⟨c0, c1, c2, c3, c4, c5, c6, c7, c8, c9, c10, c11, c12, q1, q2, z1, z2⟩ (fun hHeld => ?_)
              refine takeH (v := ?_) 0 (some 30) rfl (by kernel_rfl) (by kernel_rfl) (by kernel_rfl) (fun _ _ _ h => h) rfl rfl ?_ hHeld ?_
              rotate_left
              · intro w' hSw; (try dsimp only at hSw); first | (go_simp; done) | (go_simp; with_reducible rfl)
              try simp only [Act.put, List.setIfInBounds_toArray, List.set_cons_zero, List.set_cons_succ]
              refine takeH (v := ?_) 1 (some 31) rfl (by kernel_rfl) (by kernel_rfl) (by kernel_rfl) (fun _ _ _ h => h) rfl rfl ?_ hHeld ?_
              rotate_left
              · intro w' hSw; (try dsimp only at hSw); first | (go_simp; done) | (go_simp; with_reducible rfl)
              try simp only [Act.put, List.setIfInBounds_toArray, List.set_cons_zero, List.set_cons_succ]
              refine takeH (v := ?_) 2 (some 32) rfl (by kernel_rfl) (by kernel_rfl) (by kernel_rfl) (fun _ _ _ h => h) rfl rfl ?_ hHeld ?_
              rotate_left
              · intro w' hSw; (try dsimp only at hSw); first | (go_simp; done) | (go_simp; with_reducible rfl)
              try simp only [Act.put, List.setIfInBounds_toArray, List.set_cons_zero, List.set_cons_succ]
              refine takeH (v := ?_) 3 (some 33) rfl (by kernel_rfl) (by kernel_rfl) (by kernel_rfl) (fun _ _ _ h => h) rfl rfl ?_ hHeld ?_
              rotate_left
              · intro w' hSw; (try dsimp only at hSw); first | (go_simp; done) | (go_simp; with_reducible rfl)
              try simp only [Act.put, List.setIfInBounds_toArray, List.set_cons_zero, List.set_cons_succ]
              refine skipH 4 (some 34) rfl (by kernel_rfl) (by kernel_rfl) (by kernel_rfl) (fun _ _ _ h => h) rfl rfl hHeld ?_
              try simp only [Act.put, List.setIfInBounds_toArray, List.set_cons_zero, List.set_cons_succ]
              refine skipH 5 (some 35) rfl (by kernel_rfl) (by kernel_rfl) (by kernel_rfl) (fun _ _ _ h => h) rfl rfl hHeld ?_
              try simp only [Act.put, List.setIfInBounds_toArray, List.set_cons_zero, List.set_cons_succ]
              refine skipH 6 (some 36) rfl (by kernel_rfl) (by kernel_rfl) (by kernel_rfl) (fun _ _ _ h => h) rfl rfl hHeld ?_
              try simp only [Act.put, List.setIfInBounds_toArray, List.set_cons_zero, List.set_cons_succ]
              refine skipH 7 (some 37) rfl (by kernel_rfl) (by kernel_rfl) (by kernel_rfl) (fun _ _ _ h => h) rfl rfl hHeld ?_
              try simp only [Act.put, List.setIfInBounds_toArray, List.set_cons_zero, List.set_cons_succ]
              refine skipH 8 (some 38) rfl (by kernel_rfl) (by kernel_rfl) (by kernel_rfl) (fun _ _ _ h => h) rfl rfl hHeld ?_
              try simp only [Act.put, List.setIfInBounds_toArray, List.set_cons_zero, List.set_cons_succ]
              refine skipH 9 (some 39) rfl (by kernel_rfl) (by kernel_rfl) (by kernel_rfl) (fun _ _ _ h => h) rfl rfl hHeld ?_
              try simp only [Act.put, List.setIfInBounds_toArray, List.set_cons_zero, List.set_cons_succ]
              refine skipH 10 (some 40) rfl (by kernel_rfl) (by kernel_rfl) (by kernel_rfl) (fun _ _ _ h => h) rfl rfl hHeld ?_
              try simp only [Act.put, List.setIfInBounds_toArray, List.set_cons_zero, List.set_cons_succ]
              refine skipH 11 (some 41) rfl (by kernel_rfl) (by kernel_rfl) (by kernel_rfl) (fun _ _ _ h => h) rfl rfl hHeld ?_
              try simp only [Act.put, List.setIfInBounds_toArray, List.set_cons_zero, List.set_cons_succ]
              refine skipH 12 (some 42) rfl (by kernel_rfl) (by kernel_rfl) (by kernel_rfl) (fun _ _ _ h => h) rfl rfl hHeld ?_
              try simp only [Act.put, List.setIfInBounds_toArray, List.set_cons_zero, List.set_cons_succ]
              refine takeH (v := ?_) 13 (some 43) rfl (by kernel_rfl) (by kernel_rfl) (by kernel_rfl) (fun _ _ _ h => h) rfl rfl ?_ hHeld ?_
              rotate_left
              · intro w' hSw; (try dsimp only at hSw); first | (go_simp; done) | (go_simp; with_reducible rfl)
              try simp only [Act.put, List.setIfInBounds_toArray, List.set_cons_zero, List.set_cons_succ]
              refine takeH (v := ?_) 14 (some 44) rfl (by kernel_rfl) (by kernel_rfl) (by kernel_rfl) (fun _ _ _ h => h) rfl rfl ?_ hHeld ?_
              rotate_left
              · intro w' hSw; (try dsimp only at hSw); first | (go_simp; done) | (go_simp; with_reducible rfl)
              try simp only [Act.put, List.setIfInBounds_toArray, List.set_cons_zero, List.set_cons_succ]
              refine takeH (v := ?_) 15 (some 45) rfl (by kernel_rfl) (by kernel_rfl) (by kernel_rfl) (fun _ _ _ h => h) rfl rfl ?_ hHeld ?_
              rotate_left
              · intro w' hSw; (try dsimp only at hSw); first | (go_simp; done) | (go_simp; with_reducible rfl)
              try simp only [Act.put, List.setIfInBounds_toArray, List.set_cons_zero, List.set_cons_succ]
              refine takeH (v := ?_) 16 (some 46) rfl (by kernel_rfl) (by kernel_rfl) (by kernel_rfl) (fun _ _ _ h => h) rfl rfl ?_ hHeld ?_
              rotate_left
              · intro w' hSw; (try dsimp only at hSw); first | (go_simp; done) | (go_simp; with_reducible rfl)
              try simp only [Act.put, List.setIfInBounds_toArray, List.set_cons_zero, List.set_cons_succ]
              refine takeH (v := ?_) 17 (some 47) rfl (by kernel_rfl) (by kernel_rfl) (by kernel_rfl) (fun _ _ _ h => h) rfl rfl ?_ hHeld ?_
              rotate_left
              · intro w' hSw; (try dsimp only at hSw); first | (go_simp; done) | (go_simp; with_reducible rfl)
              try simp only [Act.put, List.setIfInBounds_toArray, List.set_cons_zero, List.set_cons_succ]
              refine takeH (v := ?_) 18 (some 48) rfl (by kernel_rfl) (by kernel_rfl) (by kernel_rfl) (fun _ _ _ h => h) rfl rfl ?_ hHeld ?_
              rotate_left
              · intro w' hSw; (try dsimp only at hSw); first | (go_simp; done) | (go_simp; with_reducible rfl)
              try simp only [Act.put, List.setIfInBounds_toArray, List.set_cons_zero, List.set_cons_succ]
              refine takeH (v := ?_) 19 (some 49) rfl (by kernel_rfl) (by kernel_rfl) (by kernel_rfl) (fun _ _ _ h => h) rfl rfl ?_ hHeld ?_
              rotate_left
              · intro w' hSw; (try dsimp only at hSw); first | (go_simp; done) | (go_simp; with_reducible rfl)
              try simp only [Act.put, List.setIfInBounds_toArray, List.set_cons_zero, List.set_cons_succ]
              refine takeH (v := ?_) 20 (some 50) rfl (by kernel_rfl) (by kernel_rfl) (by kernel_rfl) (fun _ _ _ h => h) rfl rfl ?_ hHeld ?_
              rotate_left
              · intro w' hSw; (try dsimp only at hSw); first | (go_simp; done) | (go_simp; with_reducible rfl)
              try simp only [Act.put, List.setIfInBounds_toArray, List.set_cons_zero, List.set_cons_succ]
              refine takeH (v := ?_) 21 (some 51) rfl (by kernel_rfl) (by kernel_rfl) (by kernel_rfl) (fun _ _ _ h => h) rfl rfl ?_ hHeld ?_
              rotate_left
              · intro w' hSw; (try dsimp only at hSw); first | (go_simp; done) | (go_simp; with_reducible rfl)
              try simp only [Act.put, List.setIfInBounds_toArray, List.set_cons_zero, List.set_cons_succ]
              refine takeH (v := ?_) 22 (some 52) rfl (by kernel_rfl) (by kernel_rfl) (by kernel_rfl) (fun _ _ _ h => h) rfl rfl ?_ hHeld ?_
              rotate_left
              · intro w' hSw; (try dsimp only at hSw); first | (go_simp; done) | (go_simp; with_reducible rfl)
              try simp only [Act.put, List.setIfInBounds_toArray, List.set_cons_zero, List.set_cons_succ]
              refine takeH (v := ?_) 23 (some 53) rfl (by kernel_rfl) (by kernel_rfl) (by kernel_rfl) (fun _ _ _ h => h) rfl rfl ?_ hHeld ?_
              rotate_left
              · intro w' hSw; (try dsimp only at hSw); first | (go_simp; done) | (go_simp; with_reducible rfl)
              try simp only [Act.put, List.setIfInBounds_toArray, List.set_cons_zero, List.set_cons_succ]
              refine takeH (v := ?_) 24 (some 54) rfl (by kernel_rfl) (by kernel_rfl) (by kernel_rfl) (fun _ _ _ h => h) rfl rfl ?_ hHeld ?_
              rotate_left
              · intro w' hSw; (try dsimp only at hSw); first | (go_simp; done) | (go_simp; with_reducible rfl)
              try simp only [Act.put, List.setIfInBounds_toArray, List.set_cons_zero, List.set_cons_succ]
              refine takeH (v := ?_) 25 (some 55) rfl (by kernel_rfl) (by kernel_rfl) (by kernel_rfl) (fun _ _ _ h => h) rfl rfl ?_ hHeld ?_
              rotate_left
              · intro w' hSw; (try dsimp only at hSw); first | (go_simp; done) | (go_simp; with_reducible rfl)
              try simp only [Act.put, List.setIfInBounds_toArray, List.set_cons_zero, List.set_cons_succ]
              refine takeH (v := ?_) 26 (some 56) rfl (by kernel_rfl) (by kernel_rfl) (by kernel_rfl) (fun _ _ _ h => h) rfl rfl ?_ hHeld ?_
              rotate_left
              · intro w' hSw; (try dsimp only at hSw); first | (go_simp; done) | (go_simp; with_reducible rfl)
              try simp only [Act.put, List.setIfInBounds_toArray, List.set_cons_zero, List.set_cons_succ]
              refine takeH (v := ?_) 27 (some 57) rfl (by kernel_rfl) (by kernel_rfl) (by kernel_rfl) (fun _ _ _ h => h) rfl rfl ?_ hHeld ?_
              rotate_left
              · intro w' hSw; (try dsimp only at hSw); first | (go_simp; done) | (go_simp; with_reducible rfl)
              try simp only [Act.put, List.setIfInBounds_toArray, List.set_cons_zero, List.set_cons_succ]
              refine wpAnyH_ready (rs := [28]) (by kernel_rfl) (by simp) ?_
              refine AllReadyH.cons rfl (fun K hK => ?_) AllReadyH.nil
              go_simp
              refine (KPW.out _ (by first | exact drw | exact hbq)).mono ?_; rintro e wx ⟨rfl, hbx0⟩; have hbx : Below wq.heap.size wq wx := (by first | exact dr.trans hbx0 | exact hbx0)
              go_wp2_with fail
              refine hK.out _ _ (by obtain ⟨a0, a1, a2, a3, a4, a5, a6, a7, a8, a9, a10, a11, a12, a13, a14, a15, a16⟩ := hHeld; exact ⟨cell_later hbx0 a0, cell_later hbx0 a1, cell_later hbx0 a2, cell_later hbx0 a3, cell_later hbx0 a4, cell_later hbx0 a5, cell_later hbx0 a6, cell_later hbx0 a7, cell_later hbx0 a8, cell_later hbx0 a9, cell_later hbx0 a10, cell_later hbx0 a11, cell_later hbx0 a12, cell_later hbx0 a13, cell_later hbx0 a14, cell_later hbx0 a15, cell_later hbx0 a16⟩) (fun hHeld => ?_)
              clear hK K
              try simp only [Act.put, List.setIfInBounds_toArray, List.set_cons_zero, List.set_cons_succ]
              refine takeH (v := ?_) 29 (some 59) rfl (by kernel_rfl) (by kernel_rfl) (by kernel_rfl) (fun _ _ _ h => h) rfl rfl ?_ hHeld ?_
              rotate_left
              · intro w' hSw; (try dsimp only at hSw); first | (go_simp; done) | (go_simp; with_reducible rfl)
              try simp only [Act.put, List.setIfInBounds_toArray, List.set_cons_zero, List.set_cons_succ]
              refine takeH (v := ?_) 30 (some 60) rfl (by kernel_rfl) (by kernel_rfl) (by kernel_rfl) (fun _ _ _ h => h) rfl rfl ?_ hHeld ?_
              rotate_left
              · intro w' hSw; (try dsimp only at hSw); first | (go_simp; done) | (go_simp; with_reducible rfl)
              try simp only [Act.put, List.setIfInBounds_toArray, List.set_cons_zero, List.set_cons_succ]
              refine wpAnyH_done (by kernel_rfl) ?_ _
              have HJX : Hid (JV W (w.heap.size + 1) (w.heap.size + 1 + 1) n wx u (TJf k j) (MJf k j)) := JV_below HJQ.out hbx
              have HXX : Hid (vl.rowAt wx ra (RLf k)) := rowAt_below HXQ.out hbx
              have HYX : Hid (vl.rowAt wx rb (RRf j)) := rowAt_below HYQ.out hbx
              have p2 := cell_later hbx q2
              have r2 := cell_later hbx z2
              have g2 := H2.out (by trivial)
              have g4 := H4.out (by trivial)
              have g6 := H6.out (by trivial)
              have G2 : Hid (TJf k (j + 1) = TJf k j) := g2
              have G4 : Hid (MJf k (j + 1) = MJf k j) := g4
              have G6 : Hid (AJf k (j + 1) = AJf k j) := g6
              clear g2 g4 g6
              go_wp2
              go_roundw
              case rel => exact ⟨j + 1, u, by omega, by go_num, by rw [G6.out], by rw [G2.out, G4.out]; exact HJX.out⟩
              case measure => simp [intOf]; omega
        · have hje : j = n := by omega
          subst hje
          have HTS1 := HTS.out k hlt
          have HMS1 : Hid (MKf (k + 1) = MJf k j) := HMS.out k hlt
          cases hal : AJf k j with
          | false =>
            have G : Hid (TKf (k + 1) = TJf k j) := by rw [HTS1, if_neg (fun h => by rw [hal] at h; exact absurd h.1 (by decide)), List.append_nil]; exact rfl
            clear HTS1
            go_wp2
            go_roundw
            case rel => exact ⟨k + 1, u, by omega, by go_num, by rw [G.out, HMS1.out]; exact HJQ.out⟩
            case measure => simp [intOf]; omega
          | true =>
            cases hKL : KL with
            | false =>
              have G : Hid (TKf (k + 1) = TJf k j) := by rw [HTS1, if_neg (fun h => by rw [hKL] at h; exact absurd h.2 (by decide)), List.append_nil]; exact rfl
              rw [hKL] at K5
              clear HTS1
              go_wp2_with (go_at_call 41; refine (K5.out _).mono ?_; rintro e wx ⟨rfl, hbx⟩)
              go_roundw
              case rel => exact ⟨k + 1, u, by omega, by go_num, by rw [G.out, HMS1.out]; exact JV_below HJQ.out hbx⟩
              case measure => simp [intOf]; omega
            | true =>
              have G : Hid (TKf (k + 1) = TJf k j ++ [RLf k ++ NRR]) := by rw [HTS1, if_pos ⟨hal, hKL⟩]; exact rfl
              rw [hKL] at K5
              have HLT : Hid ((TJf k j).length < 4096) := HJL.out k j hlt (by omega)
              clear HTS1
              go_wp2_with (go_at_call 41; refine (K5.out _).mono ?_; rintro e wx ⟨rfl, hbx⟩; have p2 := cell_later hbx q2; have d7 := cell_later hbx c7; have HJX : Hid (JV W (w.heap.size + 1) (w.heap.size + 1 + 1) j wx u (TJf k j) (MJf k j)) := JV_below HJQ.out hbx; have HXX : Hid (vl.rowAt wx ra (RLf k)) := rowAt_below HXQ.out hbx)
              go_region_held3 (fun w' => w'.cell? ⟨b, o + k * 2 + 1, none⟩ = some (.slice ra n6 rc2) ∧ w'.cell? ⟨w.heap.size, 7, none⟩ = some (.slice rr n7 rc)) (first | go_keep | exact ⟨cell_later hb2 p2, cell_later hb2 d7⟩ | exact ⟨cell_later hb3 p2, cell_later hb3 d7⟩ | exact ⟨t1, t2⟩)
                (first
                  | (go_at_call 42; refine (K6.out _).mono ?_; rintro e w2 ⟨⟨rfl, hnr⟩, hb20⟩; have hb2 := (Below.refl wx.heap.size wx).drew.trans hb20)
                  | (go_at_call 21; refine (KB.out (RLf k) NRR _ _ _ _ w2 hrl HNL.out.2 (rowAt_below HXX.out hb2) hnr).mono ?_; rintro e w3 ⟨⟨ad3, cap3, rfl, hov⟩, hb30⟩; have hb3 := hb2.trans (hb30.mono hb2.size))
                  | (go_at_call 37; refine (KT.out (w.heap.size + 1) (w.heap.size + 1 + 1) (RLf k) NRR ad3 cap3 u _ w2 w3 hrl HNL.out.2 (OV_below HJX.out.one hb3) HLT.out HRN.out (fun b hb => by have := (huq b hb).2; have := hbx.size; have := hb2.size; omega) hov).mono ?_; rintro e w4 ⟨rfl, ⟨u', ho4⟩, hf4⟩; have hj4 := JV_put (JV_below HJX.out hb3) ho4 hf4; have t1 := cell_later (JV_old hj4 hbW (by omega)) HX2.out; have t2 := JV_cell hj4 s7 (by omega) (by omega)))
              all_goals
                go_wp2
                go_roundw
                case rel => exact ⟨k + 1, u', by omega, by go_num, by rw [G.out, HMS1.out]; exact hj4⟩
                case measure => simp [intOf]; omega
    · have hkn : k = nL := by omega
      subst hkn
      go_wp2
      go_loopw [13] (fun i wq => ∃ (j : Nat) (u : Value), j ≤ n ∧ i = .int .i64 j ∧ JV W (w.heap.size + 1) (w.heap.size + 1 + 1) n wq u (TRf j) (MKf k)) (fun i _ => n - (intOf i).toNat)
      case atStart => exact ⟨0, v, Nat.zero_le _, rfl, by rw [HR0.out]; exact HJ.out⟩
      case round =>
        rename World => wq
        obtain ⟨j, u, hj, rfl, hjs⟩ := hrel
        have HJQ : Hid (JV W (w.heap.size + 1) (w.heap.size + 1 + 1) n wq u (TRf j) (MKf k)) := hjs
        have hbq : Below w.heap.size w wq := JV_old hjs hbW (by omega)
        have c0 := JV_cell hjs s0 (by omega) (by omega)
        have c1 := JV_cell hjs s1 (by omega) (by omega)
        have c2 := JV_cell hjs s2 (by omega) (by omega)
        have c3 := JV_cell hjs s3 (by omega) (by omega)
        have c4 := JV_cell hjs s4 (by omega) (by omega)
        have c5 := JV_cell hjs s5 (by omega) (by omega)
        have c6 := JV_cell hjs s6 (by omega) (by omega)
        have c7 := JV_cell hjs s7 (by omega) (by omega)
        have c8 := JV_cell hjs s8 (by omega) (by omega)
        have c9 := JV_cell hjs s9 (by omega) (by omega)
        have c10 := JV_cell hjs s10 (by omega) (by omega)
        have c11 := JV_cell hjs s11 (by omega) (by omega)
        have c12 := JV_cell hjs s12 (by omega) (by omega)
        have huq := OV_own hjs.one
        by_cases hjl : j < n
        · obtain ⟨b2, o2, rb, rc3, e, y1, y2, y3⟩ := HA2.out j hjl
          subst e
          obtain ⟨hrr, hrn⟩ := HRR.out j hjl
          have HRN : Hid (rowOk (NRL ++ RRf j)) := hrn
          rw [hrr] at y2
          have HY2 : Hid (w.cell? ⟨b2, o2 + j * 2 + 1, none⟩ = some (.slice rb n7 rc3)) := y2
          have z2 := cell_later hbq y2
          have HYQ : Hid (vl.rowAt wq rb (RRf j)) := rowAt_below y3 hbq
          have hmc := hjs.met j hjl
          have j1 : (0 : Int) ≤ (j : Int) := by omega
          have j2 : (j : Int) < (n : Int) := by omega
          have HRSj := HRS.out j
          clear y1 y2 y3 hjs hrn
          cases hmj : MKf k j with
          | true =>
            rw [hmj] at hmc
            have G : Hid (TRf (j + 1) = TRf j) := by rw [HRSj, if_neg (fun h => by rw [hmj] at h; exact absurd h.1 (by decide)), List.append_nil]; exact rfl
            clear HRSj hmj
            go_wp2
            go_roundw
            case rel => exact ⟨j + 1, u, by omega, by go_num, by rw [G.out]; exact HJQ.out⟩
            case measure => simp [intOf]; omega
          | false =>
            rw [hmj] at hmc
            cases hKR : KR with
            | false =>
              have G : Hid (TRf (j + 1) = TRf j) := by rw [HRSj, if_neg (fun h => by rw [hKR] at h; exact absurd h.2 (by decide)), List.append_nil]; exact rfl
              rw [hKR] at K7
              clear HRSj hmj hKR
              go_wp2_with (go_at_call 43; refine (K7.out _).mono ?_; rintro e wx ⟨rfl, hbx⟩)
              go_roundw
              case rel => exact ⟨j + 1, u, by omega, by go_num, by rw [G.out]; exact JV_below HJQ.out hbx⟩
              case measure => simp [intOf]; omega
            | true =>
              have G : Hid (TRf (j + 1) = TRf j ++ [NRL ++ RRf j]) := by rw [HRSj, if_pos ⟨hmj, hKR⟩]; exact rfl
              rw [hKR] at K7
              have HLT : Hid ((TRf j).length < 4096) := HRLn.out j (by omega)
              clear HRSj hmj hKR
              go_wp2_with (go_at_call 43; refine (K7.out _).mono ?_; rintro e wx ⟨rfl, hbx⟩; have p2 := cell_later hbx z2; have d6 := cell_later hbx c6; have HJX : Hid (JV W (w.heap.size + 1) (w.heap.size + 1 + 1) n wx u (TRf j) (MKf k)) := JV_below HJQ.out hbx; have HYX : Hid (vl.rowAt wx rb (RRf j)) := rowAt_below HYQ.out hbx)
              go_region_held3 (fun w' => w'.cell? ⟨b2, o2 + j * 2 + 1, none⟩ = some (.slice rb n7 rc3) ∧ w'.cell? ⟨w.heap.size, 6, none⟩ = some (.slice la n6 lc)) (first | go_keep | exact ⟨cell_later hb2 p2, cell_later hb2 d6⟩ | exact ⟨cell_later hb3 p2, cell_later hb3 d6⟩ | exact ⟨t1, t2⟩)
                (first
                  | (go_at_call 42; refine (K8.out _).mono ?_; rintro e w2 ⟨⟨rfl, hnr⟩, hb20⟩; have hb2 := (Below.refl wx.heap.size wx).drew.trans hb20)
                  | (go_at_call 21; refine (KB.out NRL (RRf j) _ _ _ _ w2 HNL.out.1 hrr hnr (rowAt_below HYX.out hb2)).mono ?_; rintro e w3 ⟨⟨ad3, cap3, rfl, hov⟩, hb30⟩; have hb3 := hb2.trans (hb30.mono hb2.size))
                  | (go_at_call 37; refine (KT.out (w.heap.size + 1) (w.heap.size + 1 + 1) NRL (RRf j) ad3 cap3 u _ w2 w3 HNL.out.1 hrr (OV_below HJX.out.one hb3) HLT.out HRN.out (fun b hb => by have := (huq b hb).2; have := hbx.size; have := hb2.size; omega) hov).mono ?_; rintro e w4 ⟨rfl, ⟨u', ho4⟩, hf4⟩; have hj4 := JV_put (JV_below HJX.out hb3) ho4 hf4; have t1 := cell_later (JV_old hj4 hbW (by omega)) HY2.out; have t2 := JV_cell hj4 s6 (by omega) (by omega)))
              all_goals
                go_wp2
                go_roundw
                case rel => exact ⟨j + 1, u', by omega, by go_num, by rw [G.out]; exact hj4⟩
                case measure => simp [intOf]; omega
        · have hje : j = n := by omega
          subst hje
          have HOV := HJQ.out.one
          rw [HRE.out] at HOV
          obtain ⟨out, ad, cap, f1, f2, f3, f4, f5⟩ := OV_form HOV
          have hcell := HOV.cell
          subst f4
          have HF : Hid (ch.kvOf out = rowsK TO ∧ ch.viewOk out ∧ ch.wfView out ∧ ch.viewAt wq ad out) := ⟨f1, f2, f3, f5⟩
          obtain ⟨on, hon⟩ : ∃ z, out.length = z := ⟨_, rfl⟩
          have HON : Hid (out.length = on) := hon
          rw [hon] at hcell
          clear f1 f2 f3 f5 HOV hjs hon
          go_wp2
          go_ret
          exact ⟨⟨out, ad, cap, HF.out.1, HF.out.2.1, HF.out.2.2.1, (by rw [HON.out]; rfl), HF.out.2.2.2⟩, hbq⟩
end Go.Proofs.YtcpanmaahhiioaaGreat.bt
