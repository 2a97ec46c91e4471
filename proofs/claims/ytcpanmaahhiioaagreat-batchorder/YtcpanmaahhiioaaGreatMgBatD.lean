/- Several texts in one: BatJS, BatJoin, BatJoined. -/
import Derived.Test.YtcpanmaahhiioaaGreatMgBatB
import Derived.Test.YtcpanmaahhiioaaGreatMgBatC
import Derived.Test.YtcpanmaahhiioaaGreatMgBatA
import Derived.Laws.OwnMore
import Derived.Deep.RegionHeld3
import Derived.Test.YtcpanmaahhiioaaGreatMgChgD
/- What lies in memory while a join tells its rows: the list, and which right rows were met. -/
namespace Go.Proofs.YtcpanmaahhiioaaGreat.bt
open Go.ChangeShapes Go.WideShapes Go.ChangeAt Go.RowKit Go.Maps Go.WideMaps
open vl pl
set_option linter.unusedVariables false
set_option linter.unusedSimpArgs false
/-- W: the world behind the map; C: the list's variable; M: the block of what was met -/
structure JS (W : World) (C M n : Nat) (wr : World) (v : Value) (l : List ch.Chg) (met : Nat → Bool) : Prop where
  one : OS wr C (M + 1) v l
  und : C < M
  os : wr.os = W.os
  tape : wr.tape = W.tape
  output : wr.output = W.output
  size : W.heap.size ≤ wr.heap.size
  block : ∀ b, b < M → b ≠ C → wr.heap[b]? = W.heap[b]?
  met : ∀ j, j < n → wr.cell? ⟨M, j, none⟩ = some (.bool (met j))
  frz : ∀ j, wr.frozen? ⟨M, j, none⟩ = false
theorem JS.mlt {W wr : World} {C M n : Nat} {v : Value} {l : List ch.Chg} {met : Nat → Bool} (h : JS W C M n wr v l met) : M < wr.heap.size := by have := h.one.low; omega
theorem JS_below {W wr w' : World} {C M n : Nat} {v : Value} {l : List ch.Chg} {met : Nat → Bool} (h : JS W C M n wr v l met) (hb : Below wr.heap.size wr w') : JS W C M n w' v l met :=
  ⟨OS_below h.one hb, h.und, hb.os.trans h.os, hb.tape.trans h.tape, hb.output.trans h.output, Nat.le_trans h.size hb.size, fun b h1 h2 => (hb.block b (by have := h.mlt; omega)).trans (h.block b h1 h2), fun j hj => cell_later hb (h.met j hj), fun j => (hb.frozen (p := ⟨M, j, none⟩) h.mlt).trans (h.frz j)⟩
theorem OS_own {w : World} {C base : Nat} {v : Value} {l : List ch.Chg} (h : OS w C base v l) : ∀ b, v.ownBlock = some b → base ≤ b ∧ b < w.heap.size := by
  obtain ⟨p, _, h2, _⟩ := h.rows
  exact fun b hb => ch.own_lt h2 hb
theorem JS_tell {W wr w' : World} {C M n : Nat} {v v' : Value} {l l' : List ch.Chg} {met : Nat → Bool} (h : JS W C M n wr v l met) (ho : OS w' C (M + 1) v' l') (hf : ch.fr C v.ownBlock wr w') : JS W C M n w' v' l' met := by
  have hm := h.mlt
  have hu := h.und
  have hv := OS_own h.one
  have hM : v.ownBlock ≠ some M := fun e => by have := (hv M e).1; omega
  have hMb := hf.block M hm (by omega) hM
  refine ⟨ho, hu, hf.os.trans h.os, hf.tape.trans h.tape, hf.output.trans h.output, Nat.le_trans h.size hf.size, fun b h1 h2 => (hf.block b (by omega) h2 (fun e => by have := (hv b e).1; omega)).trans (h.block b h1 h2), fun j hj => (World.cell?_of_block (w := wr) (a := ⟨M, j, none⟩) hMb).trans (h.met j hj), fun j => (World.frozen?_of_block (w := wr) (a := ⟨M, j, none⟩) hMb).trans (h.frz j)⟩
theorem JS_set {W wr : World} {C M n : Nat} {v : Value} {l : List ch.Chg} {met : Nat → Bool} (h : JS W C M n wr v l met) (k : Nat) (hk : k < n) : JS W C M n (wr.setCell ⟨M, k, none⟩ (.bool true)) v l (fun j => met j || decide (j = k)) := by
  have hm := h.mlt
  have hu := h.und
  refine ⟨OS_keep h.one (fun b hb hlt => Below.heap_setCell _ _ _ b (show b ≠ M by omega)) (by simp [World.setCell]), hu, h.os, h.tape, h.output, by simp [World.setCell]; exact h.size, fun b h1 h2 => (Below.heap_setCell _ _ _ b (show b ≠ M by omega)).trans (h.block b h1 h2), fun j hj => ?_, fun j => by rw [World.frozen?_setCell]; exact h.frz j⟩
  by_cases e : j = k
  · subst e
    rw [World.cell?_setCell_same _ _ _ (h.met j hj)]
    simp
  · rw [World.cell?_setCell_other _ _ _ _ (by intro e2; cases e2; exact e rfl), h.met j hj]
    simp [e]
theorem JS_old {W wr w0 : World} {C M n : Nat} {v : Value} {l : List ch.Chg} {met : Nat → Bool} (h : JS W C M n wr v l met) (hb : Below w0.heap.size w0 W) (hC : w0.heap.size ≤ C) : Below w0.heap.size w0 wr :=
  ⟨h.os.trans hb.os, h.tape.trans hb.tape, h.output.trans hb.output, Nat.le_trans hb.size h.size, fun b hlt => (h.block b (by have := h.und; omega) (by omega)).trans (hb.block b hlt)⟩
theorem JS_groups {W wr : World} {C M n B m : Nat} {v : Value} {l : List ch.Chg} {met : Nat → Bool} {D : DataW Unit} (h : JS W C M n wr v l met) (hM : M = W.heap.size) (hB : C < B) (hg : W.ownsGroups Tryz.prog 9 (B + 1) 3 .i64 B m D) : wr.ownsGroups Tryz.prog 9 (B + 1) 3 .i64 B m D :=
  groups_mid hg (fun g h1 h2 => h.block g (by omega) (by omega))
theorem JS_cell {W wr : World} {C M n : Nat} {v : Value} {l : List ch.Chg} {met : Nat → Bool} (h : JS W C M n wr v l met) {b o : Nat} {x : Value} (hc : W.cell? ⟨b, o, none⟩ = some x) (h1 : b < M) (h2 : b ≠ C) : wr.cell? ⟨b, o, none⟩ = some x :=
  (World.cell?_of_block (w := W) (a := ⟨b, o, none⟩) (h.block b h1 h2)).trans hc
/-- what stays while partners are told: all but the list and what was met -/
structure KW (C M : Nat) (w2 : World) (v : Value) (wq : World) (u : Value) : Prop where
  size : w2.heap.size ≤ wq.heap.size
  block : ∀ b, b < w2.heap.size → b ≠ C → b ≠ M → v.ownBlock ≠ some b → wq.heap[b]? = w2.heap[b]?
  new : u.ownBlock = v.ownBlock ∨ ∃ g, u.ownBlock = some g ∧ w2.heap.size ≤ g
theorem KW_refl (C M : Nat) (w2 : World) (v : Value) : KW C M w2 v w2 v := ⟨Nat.le_refl _, fun _ _ _ _ _ => rfl, .inl rfl⟩
theorem KW_below {C M : Nat} {w2 wq w' : World} {v u : Value} (h : KW C M w2 v wq u) (hb : Below wq.heap.size wq w') : KW C M w2 v w' u :=
  ⟨Nat.le_trans h.size hb.size, fun b h1 h2 h3 h4 => (hb.block b (Nat.lt_of_lt_of_le h1 h.size)).trans (h.block b h1 h2 h3 h4), h.new⟩
theorem KW_set {C M : Nat} {w2 wq : World} {v u : Value} (h : KW C M w2 v wq u) (k : Nat) (x : Value) : KW C M w2 v (wq.setCell ⟨M, k, none⟩ x) u :=
  ⟨by simp [World.setCell]; exact h.size, fun b h1 h2 h3 h4 => (Below.heap_setCell _ _ _ b h3).trans (h.block b h1 h2 h3 h4), h.new⟩
theorem KW_tell {C M : Nat} {w2 wq w' : World} {v u u' : Value} (h : KW C M w2 v wq u) (hf : ch.fr C u.ownBlock wq w') (hn : u'.ownBlock = u.ownBlock ∨ ∃ g, u'.ownBlock = some g ∧ wq.heap.size ≤ g) : KW C M w2 v w' u' := by
  refine ⟨Nat.le_trans h.size hf.size, fun b h1 h2 h3 h4 => ?_, ?_⟩
  · rw [hf.block b (Nat.lt_of_lt_of_le h1 h.size) h2 (fun e => by
      rcases h.new with h5 | ⟨g, h5, h6⟩
      · rw [h5] at e; exact h4 e
      · rw [h5] at e; cases e; omega)]
    exact h.block b h1 h2 h3 h4
  · rcases hn with h5 | ⟨g, h5, h6⟩
    · rw [h5]; exact h.new
    · exact .inr ⟨g, h5, Nat.le_trans h.size h6⟩
theorem KW_cell {C M : Nat} {w2 wq : World} {v u : Value} (h : KW C M w2 v wq u) {b o : Nat} {x : Value} (hc : w2.cell? ⟨b, o, none⟩ = some x) (h2 : b ≠ C) (h3 : b ≠ M) (h4 : v.ownBlock ≠ some b) : wq.cell? ⟨b, o, none⟩ = some x :=
  (World.cell?_of_block (w := w2) (a := ⟨b, o, none⟩) (h.block b (World.block_lt_of_cell? _ _ hc) h2 h3 h4)).trans hc
theorem infoB : (Tryz.prog.info? 4).map (fun i => (i.zero, i.size, i.bytes)) = some (some (.bool false), 1, 1) := by kernel_rfl
theorem make_bools (n : Nat) (w : World) (hn : n ≤ 400) :
    (Instr.makeSlice 71 (.int .i64 (n : Int)) (.int .i64 (n : Int))).run Tryz.prog w = .ok (.slice (some ⟨w.heap.size, 0, none⟩) n n) (w.alloc (.cells (madeCells #[.bool false] n) 4)) := by
  have hI := infoB
  cases hi : Tryz.prog.info? 4 with
  | none => rw [hi] at hI; cases hI
  | some i =>
    rw [hi] at hI
    simp only [Option.map_some, Option.some.injEq, Prod.mk.injEq] at hI
    obtain ⟨hz, hs, hb⟩ := hI
    have := run_makeSlice (P := Tryz.prog) (w := w) 71 4 i _ Tryz.underlying71 hi hz .i64 .i64 n n (by omega) (Int.le_refl _) (by rw [hs]; simp; omega) (by rw [hb]; omega) (by omega)
    rw [hs, Int.toNat_natCast, Nat.mul_one] at this
    exact this
theorem bools_at (n : Nat) (w : World) (j : Nat) (hj : j < n) : (w.alloc (.cells (madeCells #[.bool false] n) 4)).cell? ⟨w.heap.size, j, none⟩ = some (.bool false) := by
  rw [World.cell?_alloc_new, ← Array.getElem?_toList, toList_madeCells_one]
  simp [hj]
theorem JS_start {W : World} {C n : Nat} (hc : W.cell? ⟨C, 0, none⟩ = some (.slice none 0 0)) (hf : W.frozen? ⟨C, 0, none⟩ = false) :
    JS W C W.heap.size n (W.alloc (.cells (madeCells #[.bool false] n) 4)) (.slice none 0 0) [] (fun _ => false) := by
  have hlt := World.block_lt_of_cell? _ _ hc
  have hb : Below W.heap.size W (W.alloc (.cells (madeCells #[.bool false] n) 4)) := (Below.refl _ _).alloc (Nat.le_refl _) _
  refine ⟨OS_start (cell_later hb hc) ((hb.frozen (p := ⟨C, 0, none⟩) hlt).trans hf) (Nat.lt_succ_of_lt hlt) (by simp), hlt, rfl, rfl, rfl, by simp, fun b h1 _ => hb.block b h1, fun j hj => bools_at n W j hj, fun j => ?_⟩
  exact World.frozen?_alloc_new _ _ _ _
end Go.Proofs.YtcpanmaahhiioaaGreat.bt

/- join: what it tells. -/
namespace Go.Proofs.YtcpanmaahhiioaaGreat.bt
open Go.ChangeShapes Go.WideShapes Go.ChangeAt Go.RowKit Go.Maps Go.WideMaps
open vl pl
set_option linter.unusedVariables false
set_option linter.unusedSimpArgs false
/-- what a look-up brings: the places of a key -/
theorem lie_at {wr : World} {B m : Nat} {D : DataW Unit} {p : Pln} {R : List Stm} (hg : wr.ownsGroups Tryz.prog 9 (B + 1) 3 .i64 B m D) (hm : m ≤ 1000000) (hD : grp p R R.length D) (s : ByteArray) (hs : s.size ≤ maxLen) :
    ∃ ad cap, (Instr.lookup 113 (.map (some B)) (.string s) false).run Tryz.prog wr = .ok (.slice ad (placesOf p R s).length cap) wr ∧ natsAt wr ad (placesOf p R s) := by
  obtain ⟨v, zs, hrun, hat, hoi, _, _⟩ := hg.at law9 Tryz.underlying113 (zeroI _) (by unfold maxLen; omega) (keyOf_string_mk Tryz.underlying9 hs)
  have hz : zs = asI (placesOf p R s) := gdat_zs hoi (by rw [← plTo_all, ← hD.2 s]; exact hat)
  have hown : ownI wr (B + 1) v (asI (placesOf p R s)) := by rw [← hz]; exact hoi.1
  obtain ⟨ad, cap, hv, _⟩ := own_form hown
  have hl : (asI (placesOf p R s)).length = (placesOf p R s).length := by simp [asI]
  rw [hl] at hv
  subst hv
  obtain ⟨ad', cap', e, h2, _⟩ := asI_places hown
  injection e with e1 _ _
  subst e1
  exact ⟨ad, cap, hrun, h2⟩
set_option maxRecDepth 100000 in
set_option maxHeartbeats 8000000 in
theorem join_any (p : Pln) (x : PA) (a1 a2 : Option Addr) (c1 c2 : Nat) (L R : List Stm) (C : Nat) (w0 w : World) (hw : wfPlan p) (hp : planAt w0 p x) (hE : batchErr p L R = 0) (h1 : stmsAt w0 a1 L) (h2 : stmsAt w0 a2 R) (hwL : wfStms L) (hwR : wfStms R)
    (hb0 : Below w0.heap.size w0 w) (hC0 : w0.heap.size ≤ C) (hc : w.cell? ⟨C, 0, none⟩ = some (.slice none 0 0)) (hf : w.frozen? ⟨C, 0, none⟩ = false) :
    Calls Tryz.prog 28 #[planV p x, .slice a1 L.length c1, .slice a2 R.length c2, .func (.func 29) #[] #[.pointer (some ⟨C, 0, none⟩)]] w fun e w' => e = .returned (.tuple #[]) ∧ (∃ v base, OS w' C base v (insT (told p L R))) ∧ Below w0.heap.size w0 w' := by
  have hok := batch_ok hE
  have hfew := cols_few hok.plan
  have hsome : 1 ≤ p.left.length ∧ 1 ≤ p.right.length := ⟨(planErr_ok hok.plan).2.2.1.1.1.1, (planErr_ok hok.plan).2.2.1.1.2.1.1⟩
  have hmany := hok.many
  have K1 : Hid (∀ w1, Below w0.heap.size w0 w1 → Calls Tryz.prog 74 #[planV p x, .int .i64 2, .slice a2 R.length c2] w1 fun e w' => ∃ B n D, e = .returned (.map (some B)) ∧ w1.heap.size ≤ B ∧ B < w'.heap.size ∧ n ≤ R.length ∧ w'.ownsGroups Tryz.prog 9 (B + 1) 3 .i64 B n D ∧ grp p R R.length D ∧ Below w1.heap.size w1 w') := fun w1 hb =>
    placesByKey_any p x a2 c2 R w1 hw (planAt_below hp hb) (by omega) (stmsAt_below h2 hb) hwR
  have K2 : Hid (∀ w1 k ra rc, k < L.length → Below w0.heap.size w0 w1 → vl.rowAt w1 ra (L.getD k default).r → Calls Tryz.prog 75 #[planV p x, .int .i64 1, .slice ra (L.getD k default).r.length rc] w1 fun e w' => e = .returned (.tuple #[.string (keyOfS p 1 (L.getD k default).r), .bool (hasB p 1 (L.getD k default).r), .int .i64 (rowErr p 1 (L.getD k default).r)]) ∧ Below w1.heap.size w1 w') := fun w1 k ra rc hk hb hr => by
    have hh := wfs_at hwL k hk
    exact keyOf_any p x 1 ra rc (L.getD k default).r w1 hw (planAt_below hp hb) hr hh.1 hh.2.1
  have K3 : Hid (∀ w1 k ra rl rc a3 c3, k < L.length → hasB p 1 (L.getD k default).r = true → Below w0.heap.size w0 w1 → natsAt w1 a3 (placesOf p R (keyOfS p 1 (L.getD k default).r)) → Calls Tryz.prog 76 #[planV p x, .agg #[.int .i64 (L.getD k default).t, .slice ra rl rc], .slice a2 R.length c2, .slice a3 (placesOf p R (keyOfS p 1 (L.getD k default).r)).length c3] w1 fun e w' => (∃ v, e = .returned v ∧ placesAt w1.heap.size w' v (PS p L R k)) ∧ Below w1.heap.size w1 w') := fun w1 k ra rl rc a3 c3 hk hh hb hn => by
    refine partnersOf_any p x (L.getD k default) ra rl rc a2 a3 c2 c3 R w1 hok.plan hh (fits_at hok.lt k hk) hok.rt (stmsAt_below h2 hb) hn ?_
    have : (placesOf p R (keyOfS p 1 (L.getD k default).r)).length ≤ R.length := by unfold placesOf; exact Nat.le_trans (List.length_filter_le _ _) (by simp)
    omega
  have K5 : Hid (∀ w1, Calls Tryz.prog 77 #[.int .i64 p.mode, .int .i64 1] w1 fun e w' => e = .returned (.bool (keepsL p)) ∧ w' = w1) := fun w1 => keepsL_any p w1
  have K7 : Hid (∀ w1, Calls Tryz.prog 77 #[.int .i64 p.mode, .int .i64 2] w1 fun e w' => e = .returned (.bool (keepsR p)) ∧ w' = w1) := fun w1 => keepsR_any p w1
  have K6 : Hid (∀ w1, Calls Tryz.prog 78 #[planV p x, .int .i64 2] w1 fun e w' => (∃ gb, e = .returned (.slice (some ⟨gb, 0, none⟩) p.right.length p.right.length) ∧ w1.heap.size ≤ gb ∧ vl.rowAt w' (some ⟨gb, 0, none⟩) (nullRow p.right.length)) ∧ Below w1.heap.size w1 w') := fun w1 => nulls_any p x 2 w1 hsome.2 hfew.2
  have K8 : Hid (∀ w1, Calls Tryz.prog 78 #[planV p x, .int .i64 1] w1 fun e w' => (∃ gb, e = .returned (.slice (some ⟨gb, 0, none⟩) p.left.length p.left.length) ∧ w1.heap.size ≤ gb ∧ vl.rowAt w' (some ⟨gb, 0, none⟩) (nullRow p.left.length)) ∧ Below w1.heap.size w1 w') := fun w1 => nulls_any p x 1 w1 hsome.1 hfew.1
  have HLK : Hid (∀ (w1 : World) B m D k, k < L.length → w1.ownsGroups Tryz.prog 9 (B + 1) 3 .i64 B m D → m ≤ R.length → grp p R R.length D → ∃ ad cap, (Instr.lookup 113 (.map (some B)) (.string (keyOfS p 1 (L.getD k default).r)) false).run Tryz.prog w1 = .ok (.slice ad (placesOf p R (keyOfS p 1 (L.getD k default).r)).length cap) w1 ∧ natsAt w1 ad (placesOf p R (keyOfS p 1 (L.getD k default).r))) := fun w1 B m D k hk hg hm hD =>
    lie_at hg (by omega) hD _ (keyS_len (wfs_at hwL k hk).1)
  have HA1 : Hid (∀ i, i < L.length → ∃ b off ra rc, a1 = some ⟨b, off, none⟩ ∧ w0.cell? ⟨b, off + i * 2, none⟩ = some (.int .i64 (L.getD i default).t) ∧ w0.cell? ⟨b, off + i * 2 + 1, none⟩ = some (.slice ra (L.getD i default).r.length rc) ∧ vl.rowAt w0 ra (L.getD i default).r) := h1
  have HA2 : Hid (∀ i, i < R.length → ∃ b off ra rc, a2 = some ⟨b, off, none⟩ ∧ w0.cell? ⟨b, off + i * 2, none⟩ = some (.int .i64 (R.getD i default).t) ∧ w0.cell? ⟨b, off + i * 2 + 1, none⟩ = some (.slice ra (R.getD i default).r.length rc) ∧ vl.rowAt w0 ra (R.getD i default).r) := h2
  have HRL : Hid (∀ k, k < L.length → (L.getD k default).r.length = p.left.length) := fun k hk => (rErr_ok (firstErr_ok hok.l _ (getD_mem hk))).1
  have HRR : Hid (∀ k, k < R.length → (R.getD k default).r.length = p.right.length) := fun k hk => (rErr_ok (firstErr_ok hok.r _ (getD_mem hk))).1
  have HNL : Hid ((nullRow p.left.length).length = p.left.length ∧ (nullRow p.right.length).length = p.right.length) := ⟨null_len _, null_len _⟩
  have HT0 : Hid (TK p L R 0 = []) := rfl
  have HM0 : Hid (MK p L R 0 = fun _ => false) := rfl
  have HJ0 : Hid (∀ k, TJ p L R k 0 = TK p L R k) := TJ_zero p L R
  have HN0 : Hid (∀ k, MJ p L R k 0 = MK p L R k) := MJ_zero p L R
  have HJS : Hid (∀ k j, j < (PS p L R k).length → TJ p L R k (j + 1) = TJ p L R k j ++ [⟨1, (L.getD k default).r ++ (R.getD ((PS p L R k).getD j 0) default).r⟩]) := TJ_succ p L R
  have HNS : Hid (∀ k j, j < (PS p L R k).length → MJ p L R k (j + 1) = fun i => MJ p L R k j i || decide (i = (PS p L R k).getD j 0)) := MJ_succ p L R
  have HTS : Hid (∀ k, k < L.length → TK p L R (k + 1) = TJ p L R k (PS p L R k).length ++ (if PS p L R k = [] ∧ keepsL p = true then [⟨1, (L.getD k default).r ++ nullRow p.right.length⟩] else [])) := TK_succ p L R
  have HMS : Hid (∀ k, k < L.length → MK p L R (k + 1) = MJ p L R k (PS p L R k).length) := MK_succ p L R
  have HR0 : Hid (TR p L R 0 = TK p L R L.length) := TR_zero p L R
  have HRS : Hid (∀ k, TR p L R (k + 1) = TR p L R k ++ (if MK p L R L.length k = false ∧ keepsR p = true then [⟨1, nullRow p.left.length ++ (R.getD k default).r⟩] else [])) := TR_succ p L R
  have HRE : Hid (TR p L R R.length = insT (told p L R)) := TR_end p L R
  have HPL : Hid (∀ k j, j < (PS p L R k).length → (PS p L R k).getD j 0 < R.length) := fun k j h => PS_lt h
  have HPN : Hid (∀ k, hasB p 1 (L.getD k default).r = false → PS p L R k = []) := fun k h => PS_no h
  have HPM : Hid (∀ k, (PS p L R k).length ≤ R.length) := fun k => PS_len
  have HJL : Hid (∀ k j, (TJ p L R k j).length ≤ 1000000) := fun k j => TJ_len hmany k j
  have HRLn : Hid (∀ k, k ≤ R.length → (TR p L R k).length ≤ 1000000) := fun k hk => TR_len hmany k hk
  obtain ⟨RLf, e1⟩ : ∃ f : Nat → List Cel, ∀ k, (L.getD k default).r = f k := ⟨_, fun _ => rfl⟩
  obtain ⟨RRf, e2⟩ : ∃ f : Nat → List Cel, ∀ k, (R.getD k default).r = f k := ⟨_, fun _ => rfl⟩
  obtain ⟨tLf, e3⟩ : ∃ f : Nat → Int, ∀ k, (L.getD k default).t = f k := ⟨_, fun _ => rfl⟩
  obtain ⟨tRf, e4⟩ : ∃ f : Nat → Int, ∀ k, (R.getD k default).t = f k := ⟨_, fun _ => rfl⟩
  simp only [e1, e2, e3, e4] at K2 K3 HLK HA1 HA2 HRL HRR HJS HTS HRS HPN
  obtain ⟨KSf, e5⟩ : ∃ f : Nat → ByteArray, ∀ k, keyOfS p 1 (RLf k) = f k := ⟨_, fun _ => rfl⟩
  obtain ⟨HBf, e6⟩ : ∃ f : Nat → Bool, ∀ k, hasB p 1 (RLf k) = f k := ⟨_, fun _ => rfl⟩
  obtain ⟨REf, e7⟩ : ∃ f : Nat → Int, ∀ k, rowErr p 1 (RLf k) = f k := ⟨_, fun _ => rfl⟩
  simp only [e5, e6, e7] at K2 K3 HLK HPN
  obtain ⟨PLf, e8⟩ : ∃ f : Nat → List Nat, ∀ k, placesOf p R (KSf k) = f k := ⟨_, fun _ => rfl⟩
  obtain ⟨PSf, e9⟩ : ∃ f : Nat → List Nat, ∀ k, PS p L R k = f k := ⟨_, fun _ => rfl⟩
  obtain ⟨GD, e10⟩ : ∃ f : DataW Unit → Prop, ∀ D, grp p R R.length D = f D := ⟨_, fun _ => rfl⟩
  simp only [e8, e9, e10] at K1 K3 HLK HJS HNS HTS HMS HPL HPN HPM
  obtain ⟨TKf, e11⟩ : ∃ f : Nat → List ch.Chg, ∀ k, TK p L R k = f k := ⟨_, fun _ => rfl⟩
  obtain ⟨MKf, e12⟩ : ∃ f : Nat → Nat → Bool, ∀ k, MK p L R k = f k := ⟨_, fun _ => rfl⟩
  obtain ⟨TJf, e13⟩ : ∃ f : Nat → Nat → List ch.Chg, ∀ k j, TJ p L R k j = f k j := ⟨_, fun _ _ => rfl⟩
  obtain ⟨MJf, e14⟩ : ∃ f : Nat → Nat → Nat → Bool, ∀ k j, MJ p L R k j = f k j := ⟨_, fun _ _ => rfl⟩
  obtain ⟨TRf, e15⟩ : ∃ f : Nat → List ch.Chg, ∀ k, TR p L R k = f k := ⟨_, fun _ => rfl⟩
  simp only [e11, e12, e13, e14, e15] at HT0 HM0 HJ0 HN0 HJS HNS HTS HMS HR0 HRS HRE HJL HRLn
  obtain ⟨TO, e16⟩ : ∃ z, insT (told p L R) = z := ⟨_, rfl⟩
  obtain ⟨KL, e17⟩ : ∃ z, keepsL p = z := ⟨_, rfl⟩
  obtain ⟨KR, e18⟩ : ∃ z, keepsR p = z := ⟨_, rfl⟩
  obtain ⟨NRL, e19⟩ : ∃ z, nullRow p.left.length = z := ⟨_, rfl⟩
  obtain ⟨NRR, e20⟩ : ∃ z, nullRow p.right.length = z := ⟨_, rfl⟩
  simp only [e16, e17, e18, e19, e20] at HRE K5 K7 K6 K8 HTS HRS HNL ⊢
  clear e1 e2 e3 e4 e5 e6 e7 e8 e9 e10 e11 e12 e13 e14 e15 e16 e17 e18 e19 e20 hw hp hE h1 h2 hwL hwR hok
  obtain ⟨n, hn⟩ : ∃ n, R.length = n := ⟨_, rfl⟩
  obtain ⟨nL, hnL⟩ : ∃ n, L.length = n := ⟨_, rfl⟩
  simp only [hn, hnL] at K1 K2 K3 HLK HA1 HA2 HRL HRR HTS HMS HR0 HRS HRE HPL HPM HRLn hmany ⊢
  clear hn hnL
  obtain ⟨kind, mode, low, high, size, limit, left, right, lkeys, rkeys, grouped, group, aggs⟩ := p
  obtain ⟨la, lc, rr, rc, lk, lkc, rk, rkc, g, gc, ag, ac⟩ := x
  unfold planV at K1 K2 K3 K6 K8 ⊢
  dsimp only at K1 K2 K3 K5 K6 K7 K8 HRL HRR HNL hfew hsome ⊢
  obtain ⟨n6, h6⟩ : ∃ n, left.length = n := ⟨_, rfl⟩
  obtain ⟨n7, h7⟩ : ∃ n, right.length = n := ⟨_, rfl⟩
  obtain ⟨n8, h8⟩ : ∃ n, lkeys.length = n := ⟨_, rfl⟩
  obtain ⟨n9, h9⟩ : ∃ n, rkeys.length = n := ⟨_, rfl⟩
  obtain ⟨n11, h11⟩ : ∃ n, group.length = n := ⟨_, rfl⟩
  obtain ⟨n12, h12⟩ : ∃ n, aggs.length = n := ⟨_, rfl⟩
  simp only [h6, h7, h8, h9, h11, h12] at K1 K2 K3 K6 K8 HRL HRR HNL hfew hsome ⊢
  clear h6 h7 h8 h9 h11 h12
  have KT : Hid (∀ (M : Nat) (r1 r2 : List Cel) a b c d u l w1, r1.length = n6 → r2.length = n7 → OS w1 C (M + 1) u l → l.length ≤ 1000000 → vl.rowAt w1 a r1 → vl.rowAt w1 c r2 → Calls Tryz.prog 29 #[.slice a n6 b, .slice c n7 d, .pointer (some ⟨C, 0, none⟩)] w1 fun e w' => e = .returned (.tuple #[]) ∧ ∃ v', OS w' C (M + 1) v' (l ++ [⟨1, r1 ++ r2⟩]) ∧ ch.fr C u.ownBlock w1 w' ∧ (v'.ownBlock = u.ownBlock ∨ ∃ g, v'.ownBlock = some g ∧ w1.heap.size ≤ g)) := fun M r1 r2 a b c d u l w1 h1 h2 ho hl ha hc => by
    have := tellJ_own C (M + 1) a c b d r1 r2 u l w1 ho hl (by omega) (by omega) (by omega) (by omega) ha hc
    rw [h1, h2] at this
    exact this
  have hclt := World.block_lt_of_cell? _ _ hc
  go_enter Tryz.func28, Tryz.ntmps28
  go_wp2_with fail
  generalize hW0 : (World.alloc w _) = W0
  have hbx : Below w.heap.size w W0 := by rw [← hW0]; exact (Below.refl _ _).alloc (Nat.le_refl _) _
  have hsz0 : W0.heap.size = w.heap.size + 1 := by subst hW0; simp
  have s0 : W0.cell? ⟨w.heap.size, 0, none⟩ = some (.int .i64 kind) := by subst hW0; go_simp
  have s1 : W0.cell? ⟨w.heap.size, 1, none⟩ = some (.int .i64 mode) := by subst hW0; go_simp
  have s2 : W0.cell? ⟨w.heap.size, 2, none⟩ = some (.int .i64 low) := by subst hW0; go_simp
  have s3 : W0.cell? ⟨w.heap.size, 3, none⟩ = some (.int .i64 high) := by subst hW0; go_simp
  have s4 : W0.cell? ⟨w.heap.size, 4, none⟩ = some (.int .i64 size) := by subst hW0; go_simp
  have s5 : W0.cell? ⟨w.heap.size, 5, none⟩ = some (.int .i64 limit) := by subst hW0; go_simp
  have s6 : W0.cell? ⟨w.heap.size, 6, none⟩ = some (.slice la n6 lc) := by subst hW0; go_simp
  have s7 : W0.cell? ⟨w.heap.size, 7, none⟩ = some (.slice rr n7 rc) := by subst hW0; go_simp
  have s8 : W0.cell? ⟨w.heap.size, 8, none⟩ = some (.slice lk n8 lkc) := by subst hW0; go_simp
  have s9 : W0.cell? ⟨w.heap.size, 9, none⟩ = some (.slice rk n9 rkc) := by subst hW0; go_simp
  have s10 : W0.cell? ⟨w.heap.size, 10, none⟩ = some (.bool grouped) := by subst hW0; go_simp
  have s11 : W0.cell? ⟨w.heap.size, 11, none⟩ = some (.slice g n11 gc) := by subst hW0; go_simp
  have s12 : W0.cell? ⟨w.heap.size, 12, none⟩ = some (.slice ag n12 ac) := by subst hW0; go_simp
  clear hW0
  have hb00 : Below w0.heap.size w0 W0 := hb0.trans (hbx.mono hb0.size)
  refine (K1.out W0 hb00).mono ?_
  rintro e W ⟨B, m, D, rfl, hB1, hB2, hm, hown, hgd, hbW⟩
  have HOWN : Hid (W.ownsGroups Tryz.prog 9 (B + 1) 3 .i64 B m D) := hown
  have HGD : Hid (GD D) := hgd
  have hbWw : Below w.heap.size w W := hbx.trans (hbW.mono hbx.size)
  have hb0W : Below w0.heap.size w0 W := hb0.trans (hbWw.mono hb0.size)
  have hcW := cell_later hbWw hc
  have hfW : W.frozen? ⟨C, 0, none⟩ = false := (hbWw.frozen (p := ⟨C, 0, none⟩) hclt).trans hf
  replace s0 := cell_later hbW s0
  replace s1 := cell_later hbW s1
  replace s2 := cell_later hbW s2
  replace s3 := cell_later hbW s3
  replace s4 := cell_later hbW s4
  replace s5 := cell_later hbW s5
  replace s6 := cell_later hbW s6
  replace s7 := cell_later hbW s7
  replace s8 := cell_later hbW s8
  replace s9 := cell_later hbW s9
  replace s10 := cell_later hbW s10
  replace s11 := cell_later hbW s11
  replace s12 := cell_later hbW s12
  have hPB : w.heap.size < W.heap.size := World.block_lt_of_cell? _ _ s0
  have HST : Hid (JS W C W.heap.size n (W.alloc (.cells (madeCells #[.bool false] n) 4)) (.slice none 0 0) [] (fun _ => false)) := JS_start hcW hfW
  have hmk := make_bools n W (by omega)
  clear hown hgd K1 hcW hfW hc hf
  go_wp2
  clear hmk
  go_loopw [28] (fun i wr => ∃ (k : Nat) (v : Value), k ≤ nL ∧ i = .int .i64 k ∧ JS W C W.heap.size n wr v (TKf k) (MKf k)) (fun i _ => nL - (intOf i).toNat)
  case atStart => exact ⟨0, .slice none 0 0, Nat.zero_le _, rfl, by rw [HT0.out, HM0.out]; exact HST.out⟩
  case round =>
    obtain ⟨k, v, hk, rfl, hjs⟩ := hrel
    have HJ : Hid (JS W C W.heap.size n wr v (TKf k) (MKf k)) := hjs
    have hbr : Below w0.heap.size w0 wr := JS_old hjs hb0W hC0
    have hMlt := hjs.mlt
    have hCne : w.heap.size ≠ C := by omega
    have c0 := JS_cell hjs s0 hPB hCne
    have c1 := JS_cell hjs s1 hPB hCne
    have c2 := JS_cell hjs s2 hPB hCne
    have c3 := JS_cell hjs s3 hPB hCne
    have c4 := JS_cell hjs s4 hPB hCne
    have c5 := JS_cell hjs s5 hPB hCne
    have c6 := JS_cell hjs s6 hPB hCne
    have c7 := JS_cell hjs s7 hPB hCne
    have c8 := JS_cell hjs s8 hPB hCne
    have c9 := JS_cell hjs s9 hPB hCne
    have c10 := JS_cell hjs s10 hPB hCne
    have c11 := JS_cell hjs s11 hPB hCne
    have c12 := JS_cell hjs s12 hPB hCne
    have hlw : w.heap.size < wr.heap.size := World.block_lt_of_cell? _ _ c0
    clear hjs
    by_cases hlt : k < nL
    · obtain ⟨b, o, ra, rc2, e, x1, x2, x3⟩ := HA1.out k hlt
      subst e
      have q1 := cell_later hbr x1
      have q2 := cell_later hbr x2
      have hrl : (RLf k).length = n6 := HRL.out k hlt
      have KK : Hid (∀ w1, Below wr.heap.size wr w1 → _) := fun w1 hb => K2.out w1 k ra rc2 hlt (hbr.trans (hb.mono hbr.size)) (rowAt_below (rowAt_below x3 hbr) hb)
      have HXR : Hid (vl.rowAt wr ra (RLf k)) := rowAt_below x3 hbr
      rw [hrl] at q2 KK
      have i1 : (0 : Int) ≤ (k : Int) := by omega
      have i2 : (k : Int) < (nL : Int) := by omega
      obtain ⟨hb', hhb⟩ : ∃ z, HBf k = z := ⟨_, rfl⟩
      obtain ⟨ks, hks⟩ : ∃ z, KSf k = z := ⟨_, rfl⟩
      obtain ⟨re, hre⟩ : ∃ z, REf k = z := ⟨_, rfl⟩
      obtain ⟨tv, htv⟩ : ∃ z, tLf k = z := ⟨_, rfl⟩
      obtain ⟨pl, hpl⟩ : ∃ z, PLf k = z := ⟨_, rfl⟩
      have HLKk := HLK.out
      have K3k := K3.out
      have KK3 : Hid (∀ w1 a3 c3, hb' = true → Below w0.heap.size w0 w1 → natsAt w1 a3 pl → _) := fun w1 a3 c3 h1 h2 h3 => K3.out w1 k ra n6 rc2 a3 c3 hlt (hhb.trans h1) h2 (by rw [hpl]; exact h3)
      have KLK : Hid (∀ w1 : World, w1.ownsGroups Tryz.prog 9 (B + 1) 3 .i64 B m D → _) := fun w1 h => HLK.out w1 B m D k hlt h hm HGD.out
      have HPNk : Hid (hb' = false → PSf k = []) := fun h => HPN.out k (hhb.trans h)
      rw [hhb, hks, hre] at KK
      rw [htv, hpl] at KK3
      rw [hks, hpl] at KLK
      rw [htv] at q1
      have HX0 : Hid (vl.rowAt w0 ra (RLf k)) := x3
      clear HLKk K3k hhb hks hre htv hpl x1 x2 x3
      cases hb' with
      | true =>
        go_wp2_with fail
        refine (KK.out _ ((Below.refl _ _).alloc (Nat.le_refl _) _)).mono ?_
        rintro e w1 ⟨rfl, hb1⟩
        have hb1' : Below wr.heap.size wr w1 := ((Below.refl _ _).alloc (Nat.le_refl _) _).trans (hb1.mono (by simp))
        have f0 : w1.cell? ⟨wr.heap.size, 0, none⟩ = some (.int .i64 tv) := cell_later hb1 (by go_simp)
        have f1 : w1.cell? ⟨wr.heap.size, 1, none⟩ = some (.slice ra n6 rc2) := cell_later hb1 (by go_simp)
        have hbw1 : Below w0.heap.size w0 w1 := hbr.trans (hb1'.mono hbr.size)
        have d0 := cell_later hb1' c0
        have d1 := cell_later hb1' c1
        have d2 := cell_later hb1' c2
        have d3 := cell_later hb1' c3
        have d4 := cell_later hb1' c4
        have d5 := cell_later hb1' c5
        have d6 := cell_later hb1' c6
        have d7 := cell_later hb1' c7
        have d8 := cell_later hb1' c8
        have d9 := cell_later hb1' c9
        have d10 := cell_later hb1' c10
        have d11 := cell_later hb1' c11
        have d12 := cell_later hb1' c12
        obtain ⟨a3, c3, hlook, hnats⟩ := KLK.out w1 (JS_groups (JS_below HJ.out hb1') rfl (by omega) HOWN.out)
        have HNA : Hid (natsAt w1 a3 pl) := hnats
        clear hnats
        go_wp2_with fail
        refine (KK3.out w1 a3 c3 (by trivial) hbw1 HNA.out).mono ?_
        rintro e w2 ⟨⟨v2, rfl, ad, cap, hv2', hnat, hadb'⟩, hb2'⟩
        have HNT : Hid (natsAt w2 ad (PSf k)) := hnat
        obtain ⟨pn, hpn⟩ : ∃ z, (PSf k).length = z := ⟨_, rfl⟩
        rw [hpn] at hv2'
        subst hv2'
        have HPK : Hid ((PSf k).length = pn) := hpn
        have hpnle : pn ≤ n := by rw [← hpn]; exact HPM.out k
        have hadb : ∀ b o s, ad = some ⟨b, o, s⟩ → wr.heap.size ≤ b := fun b o s e => Nat.le_trans hb1'.size (hadb' b o s e)
        have hb2 : Below wr.heap.size wr w2 := hb1'.trans (hb2'.mono hb1'.size)
        have lb0 := cell_later hb2' f0
        have lb1 := cell_later hb2' f1
        clear hnat hpn hlook hadb'
        have HJ2 : Hid (JS W C W.heap.size n w2 v (TKf k) (MKf k)) := JS_below HJ.out hb2
        have hv2 := OS_own HJ.out.one
        have hlbn : v.ownBlock ≠ some wr.heap.size := fun e => by have := (hv2 _ e).2; omega
        have HXW : Hid (vl.rowAt w0 ra (RLf k)) := HX0.out
        go_wp2
        go_loopw [50] (fun i wq => ∃ (j : Nat) (u : Value), j ≤ pn ∧ i = .int .i64 j ∧ JS W C W.heap.size n wq u (TJf k j) (MJf k j) ∧ KW C W.heap.size w2 v wq u) (fun i _ => pn - (intOf i).toNat)
        case atStart => exact ⟨0, v, Nat.zero_le _, rfl, by rw [HJ0.out, HN0.out]; exact HJ2.out, KW_refl _ _ _ _⟩
        case round =>
          rename World => wq
          obtain ⟨j, u, hj, rfl, hjs, hkw⟩ := hrel
          have lq0 := KW_cell hkw lb0 (by omega) (by omega) hlbn
          have lq1 := KW_cell hkw lb1 (by omega) (by omega) hlbn
          by_cases hjl : j < pn
          · obtain ⟨bp, op, hade, hpc⟩ := HNT.out j (by rw [HPK.out]; exact hjl)
            subst hade
            have hbp := hadb bp op none rfl
            have hpq := KW_cell hkw hpc (by omega) (by omega) (fun e => by have := (hv2 _ e).2; omega)
            have hatl : (PSf k).getD j 0 < n := HPL.out k j (by rw [HPK.out]; exact hjl)
            have HJS1 := HJS.out k j (by rw [HPK.out]; exact hjl)
            have HNS1 := HNS.out k j (by rw [HPK.out]; exact hjl)
            obtain ⟨at', hat'⟩ : ∃ z, (PSf k).getD j 0 = z := ⟨_, rfl⟩
            rw [hat'] at hpq hatl HJS1 HNS1
            have HJS2 : Hid (TJf k (j + 1) = TJf k j ++ [⟨1, RLf k ++ RRf at'⟩]) := HJS1
            have HNS2 : Hid (MJf k (j + 1) = fun i => MJf k j i || decide (i = at')) := HNS1
            clear hat' HJS1 HNS1
            have hmc := hjs.met at' hatl
            have hmf := hjs.frz at'
            have HJ3 : Hid (JS W C W.heap.size n (wq.setCell ⟨W.heap.size, at', none⟩ (.bool true)) u (TJf k j) (fun i => MJf k j i || decide (i = at'))) := JS_set hjs at' hatl
            have HKW3 : Hid (KW C W.heap.size w2 v (wq.setCell ⟨W.heap.size, at', none⟩ (.bool true)) u) := KW_set hkw at' _
            have hbq3 : Below w0.heap.size w0 (wq.setCell ⟨W.heap.size, at', none⟩ (.bool true)) := JS_old HJ3.out hb0W hC0
            obtain ⟨b2, o2, rb, rc3, e, y1, y2, y3⟩ := HA2.out at' hatl
            subst e
            rw [HRR.out at' hatl] at y2
            have HYR : Hid (vl.rowAt (wq.setCell ⟨W.heap.size, at', none⟩ (.bool true)) rb (RRf at')) := rowAt_below y3 hbq3
            have HXQ : Hid (vl.rowAt (wq.setCell ⟨W.heap.size, at', none⟩ (.bool true)) ra (RLf k)) := rowAt_below HXW.out hbq3
            have z2 := cell_later hbq3 y2
            have HY2 : Hid (w0.cell? ⟨b2, o2 + at' * 2 + 1, none⟩ = some (.slice rb n7 rc3)) := y2
            have z1 := KW_cell HKW3.out lb1 (by omega) (by omega) hlbn
            have j1 : (0 : Int) ≤ (j : Int) := by omega
            have j2 : (j : Int) < (pn : Int) := by omega
            have a1' : (0 : Int) ≤ (at' : Int) := by omega
            have a2' : (at' : Int) < (n : Int) := by omega
            have hrr := HRR.out at' hatl
            clear y1 y2 y3 hjs hkw
            go_wp2
            generalize hW3 : (World.setCell wq _ _) = w3 at HJ3 HKW3 hbq3 HYR HXQ z1 z2 ⊢
            clear hW3
            go_region_held3 (fun w' => w'.cell? ⟨wr.heap.size, 1, none⟩ = some (.slice ra n6 rc2) ∧ w'.cell? ⟨b2, o2 + at' * 2 + 1, none⟩ = some (.slice rb n7 rc3)) (first | go_keep | exact ⟨t1, tq0, tq1, tq2, tq3, tq4, tq5, tq6, tq7, tq8, tq9, tq10, tq11, tq12⟩)
              (first
                | (go_at_call 29; refine (KT.out W.heap.size (RLf k) (RRf at') _ _ _ _ u _ w3.drew hrl hrr (OS_below HJ3.out.one (Below.refl _ _).drew) (HJL.out k j) (rowAt_below HXQ.out (Below.refl _ _).drew) (rowAt_below HYR.out (Below.refl _ _).drew)).mono ?_; rintro e w5 ⟨rfl, u', ho5, hf5, hn5⟩; have t1 := KW_cell (KW_tell (KW_below HKW3.out (Below.refl _ _).drew) hf5 hn5) lb1 (by omega) (by omega) hlbn; have t2 := cell_later (JS_old (JS_tell (JS_below HJ3.out (Below.refl _ _).drew) ho5 hf5) hb0W hC0) HY2.out))
            all_goals
              go_wp2
              go_roundw
              case rel => exact ⟨j + 1, u', by omega, by go_num, by rw [HJS2.out, HNS2.out]; exact JS_tell (JS_below HJ3.out (Below.refl _ _).drew) ho5 hf5, KW_tell (KW_below HKW3.out (Below.refl _ _).drew) hf5 hn5⟩
              case measure => simp [intOf]; omega
          · have hje : j = pn := by omega
            subst hje
            have HJQ : Hid (JS W C W.heap.size n wq u (TJf k j) (MJf k j)) := hjs
            have HKE : Hid (KW C W.heap.size w2 v wq u) := hkw
            clear hjs hkw
            have HJE : Hid (JS W C W.heap.size n wq u (TJf k j) (MJf k j)) := HJQ.out
            have hbq0 : Below w0.heap.size w0 wq := JS_old HJE.out hb0W hC0
            have HXQ : Hid (vl.rowAt wq ra (RLf k)) := rowAt_below HXW.out hbq0
            have e0 := JS_cell HJE.out s0 hPB hCne
            have e1 := JS_cell HJE.out s1 hPB hCne
            have e2 := JS_cell HJE.out s2 hPB hCne
            have e3 := JS_cell HJE.out s3 hPB hCne
            have e4 := JS_cell HJE.out s4 hPB hCne
            have e5 := JS_cell HJE.out s5 hPB hCne
            have e6 := JS_cell HJE.out s6 hPB hCne
            have e7 := JS_cell HJE.out s7 hPB hCne
            have e8 := JS_cell HJE.out s8 hPB hCne
            have e9 := JS_cell HJE.out s9 hPB hCne
            have e10 := JS_cell HJE.out s10 hPB hCne
            have e11 := JS_cell HJE.out s11 hPB hCne
            have e12 := JS_cell HJE.out s12 hPB hCne
            have HMS1 : Hid (MKf (k + 1) = MJf k j) := by have := HMS.out k hlt; rw [HPK.out] at this; exact this
            by_cases hp0 : PSf k = []
            · have hpz : j = 0 := by first | rfl | (have h := HPK.out; rw [hp0] at h; exact h.symm)
              cases hKL : KL with
              | true =>
                have HTS1 : Hid (TKf (k + 1) = TJf k j ++ [⟨1, RLf k ++ NRR⟩]) := by have := HTS.out k hlt; rw [HPK.out, if_pos ⟨hp0, hKL⟩] at this; exact this
                rw [hKL] at K5
                subst hpz
                go_wp2_with (go_at_call 77; refine (K5.out _).mono ?_; rintro e w9 ⟨rfl, rfl⟩)
                go_region_held3 (fun w' => w'.cell? ⟨wr.heap.size, 1, none⟩ = some (.slice ra n6 rc2) ∧ w'.cell? ⟨w.heap.size, 0, none⟩ = some (.int .i64 kind) ∧ w'.cell? ⟨w.heap.size, 1, none⟩ = some (.int .i64 mode) ∧ w'.cell? ⟨w.heap.size, 2, none⟩ = some (.int .i64 low) ∧ w'.cell? ⟨w.heap.size, 3, none⟩ = some (.int .i64 high) ∧ w'.cell? ⟨w.heap.size, 4, none⟩ = some (.int .i64 size) ∧ w'.cell? ⟨w.heap.size, 5, none⟩ = some (.int .i64 limit) ∧ w'.cell? ⟨w.heap.size, 6, none⟩ = some (.slice la n6 lc) ∧ w'.cell? ⟨w.heap.size, 7, none⟩ = some (.slice rr n7 rc) ∧ w'.cell? ⟨w.heap.size, 8, none⟩ = some (.slice lk n8 lkc) ∧ w'.cell? ⟨w.heap.size, 9, none⟩ = some (.slice rk n9 rkc) ∧ w'.cell? ⟨w.heap.size, 10, none⟩ = some (.bool grouped) ∧ w'.cell? ⟨w.heap.size, 11, none⟩ = some (.slice g n11 gc) ∧ w'.cell? ⟨w.heap.size, 12, none⟩ = some (.slice ag n12 ac)) (first | go_keep | exact ⟨cell_later hbn lq1, cell_later hbn e0, cell_later hbn e1, cell_later hbn e2, cell_later hbn e3, cell_later hbn e4, cell_later hbn e5, cell_later hbn e6, cell_later hbn e7, cell_later hbn e8, cell_later hbn e9, cell_later hbn e10, cell_later hbn e11, cell_later hbn e12⟩ | exact ⟨t1, tq0, tq1, tq2, tq3, tq4, tq5, tq6, tq7, tq8, tq9, tq10, tq11, tq12⟩)
                  (first
                    | (go_at_call 78; refine (K6.out _).mono ?_; rintro e w4 ⟨⟨gq, rfl, hgq, hnr⟩, hbn0⟩; have hbn := (Below.refl _ _).drew.trans hbn0)
                    | (go_at_call 29; refine (KT.out W.heap.size (RLf k) NRR _ _ _ _ u _ w4 hrl HNL.out.2 (OS_below HJE.out.one hbn) (HJL.out k _) (rowAt_below HXQ.out hbn) hnr).mono ?_; rintro e w5 ⟨rfl, u', ho5, hf5, hn5⟩; have t1 := KW_cell (KW_tell (KW_below HKE.out hbn) hf5 hn5) lb1 (by omega) (by omega) hlbn; have tq0 := JS_cell (JS_tell (JS_below HJE.out hbn) ho5 hf5) s0 hPB hCne; have tq1 := JS_cell (JS_tell (JS_below HJE.out hbn) ho5 hf5) s1 hPB hCne; have tq2 := JS_cell (JS_tell (JS_below HJE.out hbn) ho5 hf5) s2 hPB hCne; have tq3 := JS_cell (JS_tell (JS_below HJE.out hbn) ho5 hf5) s3 hPB hCne; have tq4 := JS_cell (JS_tell (JS_below HJE.out hbn) ho5 hf5) s4 hPB hCne; have tq5 := JS_cell (JS_tell (JS_below HJE.out hbn) ho5 hf5) s5 hPB hCne; have tq6 := JS_cell (JS_tell (JS_below HJE.out hbn) ho5 hf5) s6 hPB hCne; have tq7 := JS_cell (JS_tell (JS_below HJE.out hbn) ho5 hf5) s7 hPB hCne; have tq8 := JS_cell (JS_tell (JS_below HJE.out hbn) ho5 hf5) s8 hPB hCne; have tq9 := JS_cell (JS_tell (JS_below HJE.out hbn) ho5 hf5) s9 hPB hCne; have tq10 := JS_cell (JS_tell (JS_below HJE.out hbn) ho5 hf5) s10 hPB hCne; have tq11 := JS_cell (JS_tell (JS_below HJE.out hbn) ho5 hf5) s11 hPB hCne; have tq12 := JS_cell (JS_tell (JS_below HJE.out hbn) ho5 hf5) s12 hPB hCne))
                all_goals
                  go_wp2
                  go_roundw
                  case rel => exact ⟨k + 1, u', by omega, by go_num, by rw [HTS1.out, HMS1.out]; exact JS_tell (JS_below HJE.out hbn) ho5 hf5⟩
                  case measure => simp [intOf]; omega
              | false =>
                have HTS1 : Hid (TKf (k + 1) = TJf k j) := by have := HTS.out k hlt; rw [HPK.out, if_neg (fun h => by rw [hKL] at h; exact absurd h.2 (by decide)), List.append_nil] at this; exact this
                rw [hKL] at K5
                subst hpz
                go_wp2_with (go_at_call 77; refine (K5.out _).mono ?_; rintro e w9 ⟨rfl, rfl⟩)
                go_roundw
                case rel => exact ⟨k + 1, u, by omega, by go_num, by rw [HTS1.out, HMS1.out]; exact HJE.out⟩
                case measure => simp [intOf]; omega
            · have hpz : j ≠ 0 := fun e => hp0 (List.length_eq_zero_iff.1 (by rw [HPK.out]; exact e))
              have HTS1 : Hid (TKf (k + 1) = TJf k j) := by have := HTS.out k hlt; rw [HPK.out, if_neg (fun h => hp0 h.1), List.append_nil] at this; exact this
              have hpz' : ((j : Int) == 0) = false := by rw [beq_eq_false_iff_ne]; omega
              go_wp2
              go_roundw
              case rel => exact ⟨k + 1, u, by omega, by go_num, by rw [HTS1.out, HMS1.out]; exact HJE.out⟩
              case measure => simp [intOf]; omega

      | false =>
        have hp0 : PSf k = [] := HPNk.out (by trivial)
        have HPK : Hid ((PSf k).length = 0) := by show (PSf k).length = 0; rw [hp0]; rfl
        go_wp2_with fail
        refine (KK.out _ ((Below.refl _ _).alloc (Nat.le_refl _) _)).mono ?_
        rintro e w2 ⟨rfl, hb1⟩
        have hb2 : Below wr.heap.size wr w2 := ((Below.refl _ _).alloc (Nat.le_refl _) _).trans (hb1.mono (by simp))
        have lb0 : w2.cell? ⟨wr.heap.size, 0, none⟩ = some (.int .i64 tv) := cell_later hb1 (by go_simp)
        have lb1 : w2.cell? ⟨wr.heap.size, 1, none⟩ = some (.slice ra n6 rc2) := cell_later hb1 (by go_simp)
        have HJ2 : Hid (JS W C W.heap.size n w2 v (TKf k) (MKf k)) := JS_below HJ.out hb2
        have hv2 := OS_own HJ.out.one
        have hlbn : v.ownBlock ≠ some wr.heap.size := fun e => by have := (hv2 _ e).2; omega
        have HXW : Hid (vl.rowAt w0 ra (RLf k)) := HX0.out
        go_wp2
        go_loopw [50] (fun i wq => ∃ (j : Nat) (u : Value), j ≤ 0 ∧ i = .int .i64 j ∧ JS W C W.heap.size n wq u (TJf k j) (MJf k j) ∧ KW C W.heap.size w2 v wq u) (fun i _ => 0 - (intOf i).toNat)
        case atStart => exact ⟨0, v, Nat.zero_le _, rfl, by rw [HJ0.out, HN0.out]; exact HJ2.out, KW_refl _ _ _ _⟩
        case round =>
          rename World => wq
          obtain ⟨j, u, hj, rfl, hjs, hkw⟩ := hrel
          have lq0 := KW_cell hkw lb0 (by omega) (by omega) hlbn
          have lq1 := KW_cell hkw lb1 (by omega) (by omega) hlbn
          have hje : j = 0 := by omega
          subst hje
          have HJQ : Hid (JS W C W.heap.size n wq u (TJf k 0) (MJf k 0)) := hjs
          have HKE : Hid (KW C W.heap.size w2 v wq u) := hkw
          clear hjs hkw
          have HJE : Hid (JS W C W.heap.size n wq u (TJf k 0) (MJf k 0)) := HJQ.out
          have hbq0 : Below w0.heap.size w0 wq := JS_old HJE.out hb0W hC0
          have HXQ : Hid (vl.rowAt wq ra (RLf k)) := rowAt_below HXW.out hbq0
          have e0 := JS_cell HJE.out s0 hPB hCne
          have e1 := JS_cell HJE.out s1 hPB hCne
          have e2 := JS_cell HJE.out s2 hPB hCne
          have e3 := JS_cell HJE.out s3 hPB hCne
          have e4 := JS_cell HJE.out s4 hPB hCne
          have e5 := JS_cell HJE.out s5 hPB hCne
          have e6 := JS_cell HJE.out s6 hPB hCne
          have e7 := JS_cell HJE.out s7 hPB hCne
          have e8 := JS_cell HJE.out s8 hPB hCne
          have e9 := JS_cell HJE.out s9 hPB hCne
          have e10 := JS_cell HJE.out s10 hPB hCne
          have e11 := JS_cell HJE.out s11 hPB hCne
          have e12 := JS_cell HJE.out s12 hPB hCne
          have HMS1 : Hid (MKf (k + 1) = MJf k 0) := by have := HMS.out k hlt; rw [HPK.out] at this; exact this
          by_cases hp0 : PSf k = []
          · have hpz : 0 = 0 := by first | rfl | (have h := HPK.out; rw [hp0] at h; exact h.symm)
            cases hKL : KL with
            | true =>
              have HTS1 : Hid (TKf (k + 1) = TJf k 0 ++ [⟨1, RLf k ++ NRR⟩]) := by have := HTS.out k hlt; rw [HPK.out, if_pos ⟨hp0, hKL⟩] at this; exact this
              rw [hKL] at K5
              
              go_wp2_with (go_at_call 77; refine (K5.out _).mono ?_; rintro e w9 ⟨rfl, rfl⟩)
              go_region_held3 (fun w' => w'.cell? ⟨wr.heap.size, 1, none⟩ = some (.slice ra n6 rc2) ∧ w'.cell? ⟨w.heap.size, 0, none⟩ = some (.int .i64 kind) ∧ w'.cell? ⟨w.heap.size, 1, none⟩ = some (.int .i64 mode) ∧ w'.cell? ⟨w.heap.size, 2, none⟩ = some (.int .i64 low) ∧ w'.cell? ⟨w.heap.size, 3, none⟩ = some (.int .i64 high) ∧ w'.cell? ⟨w.heap.size, 4, none⟩ = some (.int .i64 size) ∧ w'.cell? ⟨w.heap.size, 5, none⟩ = some (.int .i64 limit) ∧ w'.cell? ⟨w.heap.size, 6, none⟩ = some (.slice la n6 lc) ∧ w'.cell? ⟨w.heap.size, 7, none⟩ = some (.slice rr n7 rc) ∧ w'.cell? ⟨w.heap.size, 8, none⟩ = some (.slice lk n8 lkc) ∧ w'.cell? ⟨w.heap.size, 9, none⟩ = some (.slice rk n9 rkc) ∧ w'.cell? ⟨w.heap.size, 10, none⟩ = some (.bool grouped) ∧ w'.cell? ⟨w.heap.size, 11, none⟩ = some (.slice g n11 gc) ∧ w'.cell? ⟨w.heap.size, 12, none⟩ = some (.slice ag n12 ac)) (first | go_keep | exact ⟨cell_later hbn lq1, cell_later hbn e0, cell_later hbn e1, cell_later hbn e2, cell_later hbn e3, cell_later hbn e4, cell_later hbn e5, cell_later hbn e6, cell_later hbn e7, cell_later hbn e8, cell_later hbn e9, cell_later hbn e10, cell_later hbn e11, cell_later hbn e12⟩ | exact ⟨t1, tq0, tq1, tq2, tq3, tq4, tq5, tq6, tq7, tq8, tq9, tq10, tq11, tq12⟩)
                (first
                  | (go_at_call 78; refine (K6.out _).mono ?_; rintro e w4 ⟨⟨gq, rfl, hgq, hnr⟩, hbn0⟩; have hbn := (Below.refl _ _).drew.trans hbn0)
                  | (go_at_call 29; refine (KT.out W.heap.size (RLf k) NRR _ _ _ _ u _ w4 hrl HNL.out.2 (OS_below HJE.out.one hbn) (HJL.out k _) (rowAt_below HXQ.out hbn) hnr).mono ?_; rintro e w5 ⟨rfl, u', ho5, hf5, hn5⟩; have t1 := KW_cell (KW_tell (KW_below HKE.out hbn) hf5 hn5) lb1 (by omega) (by omega) hlbn; have tq0 := JS_cell (JS_tell (JS_below HJE.out hbn) ho5 hf5) s0 hPB hCne; have tq1 := JS_cell (JS_tell (JS_below HJE.out hbn) ho5 hf5) s1 hPB hCne; have tq2 := JS_cell (JS_tell (JS_below HJE.out hbn) ho5 hf5) s2 hPB hCne; have tq3 := JS_cell (JS_tell (JS_below HJE.out hbn) ho5 hf5) s3 hPB hCne; have tq4 := JS_cell (JS_tell (JS_below HJE.out hbn) ho5 hf5) s4 hPB hCne; have tq5 := JS_cell (JS_tell (JS_below HJE.out hbn) ho5 hf5) s5 hPB hCne; have tq6 := JS_cell (JS_tell (JS_below HJE.out hbn) ho5 hf5) s6 hPB hCne; have tq7 := JS_cell (JS_tell (JS_below HJE.out hbn) ho5 hf5) s7 hPB hCne; have tq8 := JS_cell (JS_tell (JS_below HJE.out hbn) ho5 hf5) s8 hPB hCne; have tq9 := JS_cell (JS_tell (JS_below HJE.out hbn) ho5 hf5) s9 hPB hCne; have tq10 := JS_cell (JS_tell (JS_below HJE.out hbn) ho5 hf5) s10 hPB hCne; have tq11 := JS_cell (JS_tell (JS_below HJE.out hbn) ho5 hf5) s11 hPB hCne; have tq12 := JS_cell (JS_tell (JS_below HJE.out hbn) ho5 hf5) s12 hPB hCne))
              all_goals
                go_wp2
                go_roundw
                case rel => exact ⟨k + 1, u', by omega, by go_num, by rw [HTS1.out, HMS1.out]; exact JS_tell (JS_below HJE.out hbn) ho5 hf5⟩
                case measure => simp [intOf]; omega
            | false =>
              have HTS1 : Hid (TKf (k + 1) = TJf k 0) := by have := HTS.out k hlt; rw [HPK.out, if_neg (fun h => by rw [hKL] at h; exact absurd h.2 (by decide)), List.append_nil] at this; exact this
              rw [hKL] at K5
              
              go_wp2_with (go_at_call 77; refine (K5.out _).mono ?_; rintro e w9 ⟨rfl, rfl⟩)
              go_roundw
              case rel => exact ⟨k + 1, u, by omega, by go_num, by rw [HTS1.out, HMS1.out]; exact HJE.out⟩
              case measure => simp [intOf]; omega

          · exact absurd (HPNk.out (by trivial)) hp0

    · have hkn : k = nL := by omega
      subst hkn
      go_wp2
      go_loopw [84] (fun i wr => ∃ (j : Nat) (u : Value), j ≤ n ∧ i = .int .i64 j ∧ JS W C W.heap.size n wr u (TRf j) (MKf k)) (fun i _ => n - (intOf i).toNat)
      case atStart => exact ⟨0, v, Nat.zero_le _, rfl, by rw [HR0.out]; exact HJ.out⟩
      case round =>
        rename World => wq
        obtain ⟨j, u, hj, rfl, hjs⟩ := hrel
        have HJQ : Hid (JS W C W.heap.size n wq u (TRf j) (MKf k)) := hjs
        have hbq : Below w0.heap.size w0 wq := JS_old hjs hb0W hC0
        have hMq := hjs.mlt
        have e0 := JS_cell hjs s0 hPB hCne
        have e1 := JS_cell hjs s1 hPB hCne
        have e2 := JS_cell hjs s2 hPB hCne
        have e3 := JS_cell hjs s3 hPB hCne
        have e4 := JS_cell hjs s4 hPB hCne
        have e5 := JS_cell hjs s5 hPB hCne
        have e6 := JS_cell hjs s6 hPB hCne
        have e7 := JS_cell hjs s7 hPB hCne
        have e8 := JS_cell hjs s8 hPB hCne
        have e9 := JS_cell hjs s9 hPB hCne
        have e10 := JS_cell hjs s10 hPB hCne
        have e11 := JS_cell hjs s11 hPB hCne
        have e12 := JS_cell hjs s12 hPB hCne
        have hlq : w.heap.size < wq.heap.size := World.block_lt_of_cell? _ _ e1
        have hvq := OS_own hjs.one
        by_cases hjl : j < n
        · obtain ⟨b2, o2, rb, rc3, e, y1, y2, y3⟩ := HA2.out j hjl
          subst e
          rw [HRR.out j hjl] at y2
          have z1 := cell_later hbq y1
          have z2 := cell_later hbq y2
          have HYR : Hid (vl.rowAt wq rb (RRf j)) := rowAt_below y3 hbq
          have hrr := HRR.out j hjl
          have hmc := hjs.met j hjl
          have j1 : (0 : Int) ≤ (j : Int) := by omega
          have j2 : (j : Int) < (n : Int) := by omega
          have HRSj := HRS.out j
          obtain ⟨tv, htv⟩ : ∃ z, tRf j = z := ⟨_, rfl⟩
          rw [htv] at z1
          clear htv y1 y2 y3 hjs
          cases hmj : MKf k j with
          | true =>
            rw [hmj] at hmc
            have HRS1 : Hid (TRf (j + 1) = TRf j) := by rw [HRSj, if_neg (fun h => by rw [hmj] at h; exact absurd h.1 (by decide)), List.append_nil]; exact rfl
            clear HRSj hmj
            go_wp2
            go_roundw
            case rel => exact ⟨j + 1, u, by omega, by go_num, by rw [HRS1.out]; exact JS_below HJQ.out ((Below.refl _ _).alloc (Nat.le_refl _) _)⟩
            case measure => simp [intOf]; omega
          | false =>
            rw [hmj] at hmc
            cases hKR : KR with
            | false =>
              have HRS1 : Hid (TRf (j + 1) = TRf j) := by rw [HRSj, if_neg (fun h => by rw [hKR] at h; exact absurd h.2 (by decide)), List.append_nil]; exact rfl
              rw [hKR] at K7
              clear HRSj hmj hKR
              go_wp2_with (go_at_call 77; refine (K7.out _).mono ?_; rintro e w9 ⟨rfl, hw9⟩; subst hw9)
              go_roundw
              case rel => exact ⟨j + 1, u, by omega, by go_num, by rw [HRS1.out]; exact JS_below HJQ.out ((Below.refl _ _).alloc (Nat.le_refl _) _)⟩
              case measure => simp [intOf]; omega
            | true =>
              have HRS1 : Hid (TRf (j + 1) = TRf j ++ [⟨1, NRL ++ RRf j⟩]) := by rw [HRSj, if_pos ⟨hmj, hKR⟩]; exact rfl
              rw [hKR] at K7
              clear HRSj hmj hKR
              have hln := HRLn.out j (by omega)
              go_wp2_with (go_at_call 77; refine (K7.out _).mono ?_; rintro e w9 ⟨rfl, hw9⟩; subst hw9)
              generalize hW8 : (World.alloc wq _) = w8
              have hb8 : Below wq.heap.size wq w8 := by rw [← hW8]; exact (Below.refl _ _).alloc (Nat.le_refl _) _
              have lb1 : w8.cell? ⟨wq.heap.size, 1, none⟩ = some (.slice rb n7 rc3) := by subst hW8; go_simp
              have f0 := cell_later hb8 e0
              have f1 := cell_later hb8 e1
              have f2 := cell_later hb8 e2
              have f3 := cell_later hb8 e3
              have f4 := cell_later hb8 e4
              have f5 := cell_later hb8 e5
              have f6 := cell_later hb8 e6
              have f7 := cell_later hb8 e7
              have f8 := cell_later hb8 e8
              have f9 := cell_later hb8 e9
              have f10 := cell_later hb8 e10
              have f11 := cell_later hb8 e11
              have f12 := cell_later hb8 e12
              have hlbn : u.ownBlock ≠ some wq.heap.size := fun e => by have := (hvq _ e).2; omega
              clear hW8
              go_region_held3 (fun w' => w'.cell? ⟨wq.heap.size, 1, none⟩ = some (.slice rb n7 rc3) ∧ w'.cell? ⟨w.heap.size, 0, none⟩ = some (.int .i64 kind) ∧ w'.cell? ⟨w.heap.size, 1, none⟩ = some (.int .i64 mode) ∧ w'.cell? ⟨w.heap.size, 2, none⟩ = some (.int .i64 low) ∧ w'.cell? ⟨w.heap.size, 3, none⟩ = some (.int .i64 high) ∧ w'.cell? ⟨w.heap.size, 4, none⟩ = some (.int .i64 size) ∧ w'.cell? ⟨w.heap.size, 5, none⟩ = some (.int .i64 limit) ∧ w'.cell? ⟨w.heap.size, 6, none⟩ = some (.slice la n6 lc) ∧ w'.cell? ⟨w.heap.size, 7, none⟩ = some (.slice rr n7 rc) ∧ w'.cell? ⟨w.heap.size, 8, none⟩ = some (.slice lk n8 lkc) ∧ w'.cell? ⟨w.heap.size, 9, none⟩ = some (.slice rk n9 rkc) ∧ w'.cell? ⟨w.heap.size, 10, none⟩ = some (.bool grouped) ∧ w'.cell? ⟨w.heap.size, 11, none⟩ = some (.slice g n11 gc) ∧ w'.cell? ⟨w.heap.size, 12, none⟩ = some (.slice ag n12 ac)) (first | go_keep | exact ⟨cell_later hbn lb1, cell_later hbn f0, cell_later hbn f1, cell_later hbn f2, cell_later hbn f3, cell_later hbn f4, cell_later hbn f5, cell_later hbn f6, cell_later hbn f7, cell_later hbn f8, cell_later hbn f9, cell_later hbn f10, cell_later hbn f11, cell_later hbn f12⟩ | exact ⟨t1, tq0, tq1, tq2, tq3, tq4, tq5, tq6, tq7, tq8, tq9, tq10, tq11, tq12⟩)
                (first
                  | (go_at_call 78; refine (K8.out _).mono ?_; rintro e w4 ⟨⟨gq, rfl, hgq, hnr⟩, hbn0⟩; have hbn := (Below.refl _ _).drew.trans hbn0)
                  | (go_at_call 29; refine (KT.out W.heap.size NRL (RRf j) _ _ _ _ u _ w4 HNL.out.1 hrr (OS_below (OS_below HJQ.out.one hb8) hbn) hln hnr (rowAt_below (rowAt_below HYR.out hb8) hbn)).mono ?_; rintro e w5 ⟨rfl, u', ho5, hf5, hn5⟩; have t1 := KW_cell (KW_tell (KW_below (KW_refl C W.heap.size w8 u) hbn) hf5 hn5) lb1 (by omega) (by omega) hlbn; have tq0 := JS_cell (JS_tell (JS_below (JS_below HJQ.out hb8) hbn) ho5 hf5) s0 hPB hCne; have tq1 := JS_cell (JS_tell (JS_below (JS_below HJQ.out hb8) hbn) ho5 hf5) s1 hPB hCne; have tq2 := JS_cell (JS_tell (JS_below (JS_below HJQ.out hb8) hbn) ho5 hf5) s2 hPB hCne; have tq3 := JS_cell (JS_tell (JS_below (JS_below HJQ.out hb8) hbn) ho5 hf5) s3 hPB hCne; have tq4 := JS_cell (JS_tell (JS_below (JS_below HJQ.out hb8) hbn) ho5 hf5) s4 hPB hCne; have tq5 := JS_cell (JS_tell (JS_below (JS_below HJQ.out hb8) hbn) ho5 hf5) s5 hPB hCne; have tq6 := JS_cell (JS_tell (JS_below (JS_below HJQ.out hb8) hbn) ho5 hf5) s6 hPB hCne; have tq7 := JS_cell (JS_tell (JS_below (JS_below HJQ.out hb8) hbn) ho5 hf5) s7 hPB hCne; have tq8 := JS_cell (JS_tell (JS_below (JS_below HJQ.out hb8) hbn) ho5 hf5) s8 hPB hCne; have tq9 := JS_cell (JS_tell (JS_below (JS_below HJQ.out hb8) hbn) ho5 hf5) s9 hPB hCne; have tq10 := JS_cell (JS_tell (JS_below (JS_below HJQ.out hb8) hbn) ho5 hf5) s10 hPB hCne; have tq11 := JS_cell (JS_tell (JS_below (JS_below HJQ.out hb8) hbn) ho5 hf5) s11 hPB hCne; have tq12 := JS_cell (JS_tell (JS_below (JS_below HJQ.out hb8) hbn) ho5 hf5) s12 hPB hCne))
              all_goals
                go_wp2
                go_roundw
                case rel => exact ⟨j + 1, u', by omega, by go_num, by rw [HRS1.out]; exact JS_tell (JS_below (JS_below HJQ.out hb8) hbn) ho5 hf5⟩
                case measure => simp [intOf]; omega
        · have hje : j = n := by omega
          subst hje
          have HOS := HJQ.out.one
          rw [HRE.out] at HOS
          have HOE : Hid (OS wq C (W.heap.size + 1) u TO) := HOS
          clear hjs HOS
          go_wp2
          go_end0
          exact ⟨rfl, ⟨_, _, HOE.out⟩, hbq⟩
end Go.Proofs.YtcpanmaahhiioaaGreat.bt

/- Join: what it answers. -/
namespace Go.Proofs.YtcpanmaahhiioaaGreat.bt
open Go.ChangeShapes Go.WideShapes Go.ChangeAt Go.RowKit Go.Maps Go.WideMaps
open vl pl
set_option linter.unusedVariables false
set_option linter.unusedSimpArgs false
/-- an answer: an error and no rows, or these counts -/
def viewRes (er : Int) (kv : ch.KV) (e : Ending) (w' : World) : Prop :=
  (er ≠ 0 ∧ e = .returned (.tuple #[.slice none 0 0, .int .i64 er])) ∨
  (er = 0 ∧ ∃ out ad cap, ch.kvOf out = kv ∧ ch.viewOk out ∧ ch.wfView out ∧ e = .returned (.tuple #[.slice ad out.length cap, .int .i64 0]) ∧ ch.viewAt w' ad out)
theorem nil_view : ch.viewErr [] = 0 := by decide
theorem fold_told (c : Option Addr) (cc : Nat) (rows : List (List Cel)) (w : World) (hc : ch.chgsAt w c (insT rows)) (h : ∀ r ∈ rows, rowOk r) (hl : rows.length ≤ 4096) :
    Calls Tryz.prog 22 #[.slice none 0 0, .slice c rows.length cc] w fun e w' => (∃ out ad cap, ch.kvOf out = rowsK rows ∧ ch.viewOk out ∧ ch.wfView out ∧ e = .returned (.tuple #[.slice ad out.length cap, .int .i64 0, .int .i64 0]) ∧ ch.viewAt w' ad out) ∧ Below w.heap.size w w' := by
  have hf := ch.fold_any none c 0 cc [] (insT rows) w (fun i hi => absurd hi (Nat.not_lt_zero i)) (fun c hc => by cases hc) (by decide) hc (insT_wf h) (by rw [insT_len]; omega)
  rw [insT_len] at hf
  refine hf.mono ?_
  rintro e w' ⟨hr, hb⟩
  refine ⟨?_, hb⟩
  have h1 := insT_form h hl
  have h2 := insT_errs hl
  rcases hr with ⟨h3, _⟩ | ⟨_, h3, _⟩ | ⟨_, _, k, hk, _, h3, _⟩ | ⟨_, _, _, out, ad, cap, e1, e2, e3, e4, e5⟩
  · exact absurd nil_view h3
  · exact absurd h1 h3
  · exact absurd (h2 k (by rw [insT_len] at hk; exact hk)) h3
  · rw [insT_len] at e1
    exact ⟨out, ad, cap, e1, e2, e3, e4, e5⟩
set_option maxRecDepth 100000 in
set_option maxHeartbeats 4000000 in
theorem Join_any (p : Pln) (x : PA) (a1 a2 : Option Addr) (c1 c2 : Nat) (L R : List Stm) (w : World) (hw : wfPlan p) (hp : planAt w p x) (hl : L.length + R.length ≤ 9223372036854775807) (h1 : stmsAt w a1 L) (h2 : stmsAt w a2 R) (hL : wfStms L) (hR : wfStms R) :
    Calls Tryz.prog 9 #[planV p x, .slice a1 L.length c1, .slice a2 R.length c2] w fun e w' => viewRes (batchErr p L R) (rowsK (told p L R)) e w' ∧ Below w.heap.size w w' := by
  have K1 : Hid (∀ w1, Below w.heap.size w w1 → Calls Tryz.prog 27 #[planV p x, .slice a1 L.length c1, .slice a2 R.length c2] w1 fun e w' => e = .returned (.int .i64 (batchErr p L R)) ∧ Below w1.heap.size w1 w') := fun w1 hb => checkRows_any p x a1 a2 c1 c2 L R w1 hw (planAt_below hp hb) hl (stmsAt_below h1 hb) (stmsAt_below h2 hb) hL hR
  have K2 : Hid (batchErr p L R = 0 → ∀ C w0 w1, Below w.heap.size w w0 → Below w0.heap.size w0 w1 → w0.heap.size ≤ C → w1.cell? ⟨C, 0, none⟩ = some (.slice none 0 0) → w1.frozen? ⟨C, 0, none⟩ = false → Calls Tryz.prog 28 #[planV p x, .slice a1 L.length c1, .slice a2 R.length c2, .func (.func 29) #[] #[.pointer (some ⟨C, 0, none⟩)]] w1 fun e w' => e = .returned (.tuple #[]) ∧ (∃ v base, OS w' C base v (insT (told p L R))) ∧ Below w0.heap.size w0 w') := fun h0 C w0 w1 hb hb1 hC hc hf =>
    join_any p x a1 a2 c1 c2 L R C w0 w1 hw (planAt_below hp hb) h0 (stmsAt_below h1 hb) (stmsAt_below h2 hb) hL hR hb1 hC hc hf
  have K3 : Hid (batchErr p L R = 0 → ∀ c cc w1, ch.chgsAt w1 c (insT (told p L R)) → Calls Tryz.prog 22 #[.slice none 0 0, .slice c (told p L R).length cc] w1 fun e w' => (∃ out ad cap, ch.kvOf out = rowsK (told p L R) ∧ ch.viewOk out ∧ ch.wfView out ∧ e = .returned (.tuple #[.slice ad out.length cap, .int .i64 0, .int .i64 0]) ∧ ch.viewAt w' ad out) ∧ Below w1.heap.size w1 w') := fun h0 c cc w1 hc =>
    fold_told c cc _ w1 hc (fun r hr => (told_ok h0 hL hR r hr).1) (by have := told_len p L R (batch_ok h0).many; omega)
  have HF : Hid (∀ w' C base v, OS w' C base v (insT (told p L R)) → ∃ ad cap, v = .slice ad (told p L R).length cap ∧ ch.chgsAt w' ad (insT (told p L R)) ∧ w'.cell? ⟨C, 0, none⟩ = some v) := fun w' C base v h => by
    obtain ⟨ad, cap, e1, e2⟩ := OS_form h
    rw [insT_len] at e1
    exact ⟨ad, cap, e1, e2, h.cell⟩
  obtain ⟨be, hbe⟩ : ∃ z, batchErr p L R = z := ⟨_, rfl⟩
  obtain ⟨TO, hTO⟩ : ∃ z, insT (told p L R) = z := ⟨_, rfl⟩
  obtain ⟨tn, htn⟩ : ∃ z, (told p L R).length = z := ⟨_, rfl⟩
  obtain ⟨RK, hRK⟩ : ∃ z, rowsK (told p L R) = z := ⟨_, rfl⟩
  rw [hbe] at K1 K2 K3
  rw [hTO] at K2 K3 HF
  rw [htn] at K3 HF
  rw [hRK] at K3
  rw [hbe, hRK]
  clear hbe hTO htn hRK hw hp hl h1 h2 hL hR
  obtain ⟨n, hn⟩ : ∃ n, R.length = n := ⟨_, rfl⟩
  obtain ⟨nL, hnL⟩ : ∃ n, L.length = n := ⟨_, rfl⟩
  simp only [hn, hnL] at K1 K2 ⊢
  clear hn hnL
  obtain ⟨kind, mode, low, high, size, limit, left, right, lkeys, rkeys, grouped, group, aggs⟩ := p
  obtain ⟨la, lc, rr, rc, lk, lkc, rk, rkc, g, gc, ag, ac⟩ := x
  unfold planV at K1 K2 ⊢
  dsimp only at K1 K2 ⊢
  obtain ⟨n6, h6⟩ : ∃ n, left.length = n := ⟨_, rfl⟩
  obtain ⟨n7, h7⟩ : ∃ n, right.length = n := ⟨_, rfl⟩
  obtain ⟨n8, h8⟩ : ∃ n, lkeys.length = n := ⟨_, rfl⟩
  obtain ⟨n9, h9⟩ : ∃ n, rkeys.length = n := ⟨_, rfl⟩
  obtain ⟨n11, h11⟩ : ∃ n, group.length = n := ⟨_, rfl⟩
  obtain ⟨n12, h12⟩ : ∃ n, aggs.length = n := ⟨_, rfl⟩
  simp only [h6, h7, h8, h9, h11, h12] at K1 K2 ⊢
  clear h6 h7 h8 h9 h11 h12
  go_enter Tryz.func9, Tryz.ntmps9
  go_wp2_with fail
  generalize hW0 : (World.alloc w _) = W0
  have hb0 : Below w.heap.size w W0 := by rw [← hW0]; exact (Below.refl _ _).alloc (Nat.le_refl _) _
  have s0 : W0.cell? ⟨w.heap.size, 0, none⟩ = some (.int .i64 kind) := by subst hW0; go_simp
  have s1 : W0.cell? ⟨w.heap.size, 1, none⟩ = some (.int .i64 mode) := by subst hW0; go_simp
  have s2 : W0.cell? ⟨w.heap.size, 2, none⟩ = some (.int .i64 low) := by subst hW0; go_simp
  have s3 : W0.cell? ⟨w.heap.size, 3, none⟩ = some (.int .i64 high) := by subst hW0; go_simp
  have s4 : W0.cell? ⟨w.heap.size, 4, none⟩ = some (.int .i64 size) := by subst hW0; go_simp
  have s5 : W0.cell? ⟨w.heap.size, 5, none⟩ = some (.int .i64 limit) := by subst hW0; go_simp
  have s6 : W0.cell? ⟨w.heap.size, 6, none⟩ = some (.slice la n6 lc) := by subst hW0; go_simp
  have s7 : W0.cell? ⟨w.heap.size, 7, none⟩ = some (.slice rr n7 rc) := by subst hW0; go_simp
  have s8 : W0.cell? ⟨w.heap.size, 8, none⟩ = some (.slice lk n8 lkc) := by subst hW0; go_simp
  have s9 : W0.cell? ⟨w.heap.size, 9, none⟩ = some (.slice rk n9 rkc) := by subst hW0; go_simp
  have s10 : W0.cell? ⟨w.heap.size, 10, none⟩ = some (.bool grouped) := by subst hW0; go_simp
  have s11 : W0.cell? ⟨w.heap.size, 11, none⟩ = some (.slice g n11 gc) := by subst hW0; go_simp
  have s12 : W0.cell? ⟨w.heap.size, 12, none⟩ = some (.slice ag n12 ac) := by subst hW0; go_simp
  clear hW0
  refine (K1.out W0 hb0).mono ?_
  rintro e W1 ⟨rfl, hb1⟩
  have hb01 : Below w.heap.size w W1 := hb0.trans (hb1.mono hb0.size)
  replace s0 := cell_later hb1 s0
  replace s1 := cell_later hb1 s1
  replace s2 := cell_later hb1 s2
  replace s3 := cell_later hb1 s3
  replace s4 := cell_later hb1 s4
  replace s5 := cell_later hb1 s5
  replace s6 := cell_later hb1 s6
  replace s7 := cell_later hb1 s7
  replace s8 := cell_later hb1 s8
  replace s9 := cell_later hb1 s9
  replace s10 := cell_later hb1 s10
  replace s11 := cell_later hb1 s11
  replace s12 := cell_later hb1 s12
  by_cases h0 : be = 0
  · subst h0
    have hlw : w.heap.size < W1.heap.size := World.block_lt_of_cell? _ _ s0
    go_wp2_with fail
    refine (K2.out (by trivial) _ W1 _ hb01 ((Below.refl _ _).alloc (Nat.le_refl _) _) (Nat.le_refl _) (by go_simp) (by go_simp)).mono ?_
    rintro e W2 ⟨rfl, ⟨v, base, hos⟩, hb2⟩
    obtain ⟨ad, cap, rfl, hchg, hcell⟩ := HF.out _ _ _ _ hos
    have HC : Hid (ch.chgsAt W2 ad TO) := hchg
    have hb02 : Below w.heap.size w W2 := hb01.trans (hb2.mono hb01.size)
    clear hos hchg
    go_wp2_with fail
    refine (K3.out (by trivial) ad cap W2 HC.out).mono ?_
    rintro e W3 ⟨⟨out, ad3, cap3, e1, e2, e3, rfl, e5⟩, hb3⟩
    have HR : Hid (ch.kvOf out = RK ∧ ch.viewOk out ∧ ch.wfView out ∧ ch.viewAt W3 ad3 out) := ⟨e1, e2, e3, e5⟩
    have hb03 : Below w.heap.size w W3 := hb02.trans (hb3.mono hb02.size)
    obtain ⟨on, hon⟩ : ∃ z, out.length = z := ⟨_, rfl⟩
    have HON : Hid (out.length = on) := hon
    rw [hon]
    clear e1 e2 e3 e5 hon
    go_wp2
    go_ret2
    exact ⟨.inr ⟨rfl, out, ad3, cap3, HR.out.1, HR.out.2.1, HR.out.2.2.1, (by rw [HON.out]; rfl), HR.out.2.2.2⟩, hb03⟩
  · have h0' : (be != 0) = true := by simpa using h0
    have HN : Hid (be ≠ 0) := h0
    clear h0
    go_wp2
    go_ret2
    exact ⟨.inl ⟨HN.out, rfl⟩, hb01⟩
end Go.Proofs.YtcpanmaahhiioaaGreat.bt
