import Derived.Test.YtdohnkkbkfhphaaGreatPe36
import Derived.Test.YtdohnkkbkfhphaaGreatPe22
import Derived.Test.YtdohnkkbkfhphaaGreatPe19
namespace Go.Proofs.YtdohnkkbkfhphaaGreat.jn
open Go.RowKit
open vl bf
set_option linter.unusedVariables false
set_option linter.unusedSimpArgs false
def rw2 (a b : Int) : List Cel := [⟨2, a, ⟨#[]⟩⟩, ⟨2, b, ⟨#[]⟩⟩]
theorem wf_rw2 {a b : Int} (ha : -9223372036854775808 ≤ a ∧ a ≤ 9223372036854775807) (hb : -9223372036854775808 ≤ b ∧ b ≤ 9223372036854775807) : wfRow (rw2 a b) := by
 intro c hc
 simp only [rw2, List.mem_cons, List.not_mem_nil, or_false] at hc
 rcases hc with rfl | rfl
 ·exact ⟨ha, Nat.zero_le _⟩
 ·exact ⟨hb, Nat.zero_le _⟩
def ev1 : Ev := ⟨1, 1, 1, rw2 7 1⟩
def ev2 : Ev := ⟨1, 2, 2, rw2 7 2⟩
def ev3 : Ev := ⟨2, 1, 4, []⟩
def ev4 : Ev := ⟨1, 1, 4, rw2 7 3⟩
def ev5 : Ev := ⟨1, 1, 5, rw2 7 4⟩
def storyL : List Ev := [ev1, ev2, ev3, ev4, ev5]
structure begP (p : pl.Pln) (K : ByteArray) : Prop where
 err : pl.planErr p = 0
 kind : p.kind = 1
 mode : p.mode = 4
 low : p.low = -5
 high : p.high = 5
 limit : p.limit = 2
 l : (pl.colsOf p 1).length = 2
 r : (pl.colsOf p 2).length = 2
 e1 : pl.rowErr p 1 (rw2 7 1) = 0
 e2 : pl.rowErr p 2 (rw2 7 2) = 0
 e3 : pl.rowErr p 1 (rw2 7 3) = 0
 e4 : pl.rowErr p 1 (rw2 7 4) = 0
 h1 : pl.hasB p 1 (rw2 7 1) = true
 h2 : pl.hasB p 2 (rw2 7 2) = true
 h4 : pl.hasB p 1 (rw2 7 4) = true
 k1 : pl.keyOfS p 1 (rw2 7 1) = K
 k2 : pl.keyOfS p 2 (rw2 7 2) = K
 k4 : pl.keyOfS p 1 (rw2 7 4) = K
 gone : pl.goneV p 2 4 = -1
theorem beg_simple : begP pl.simpleP (pl.keyOfS pl.simpleP 1 (rw2 7 1)) := ⟨pl.err_simple, rfl, rfl, rfl, rfl, rfl, rfl, rfl, by kernel_rfl, by kernel_rfl, by kernel_rfl, by kernel_rfl, by kernel_rfl, by kernel_rfl, by kernel_rfl, rfl, by kernel_rfl, by kernel_rfl, by kernel_rfl⟩
theorem okB_none {n : Int} (h : 1 ≤ n ∧ n ≤ 64) : okB ⟨n, [], []⟩ := ⟨h, by simp; omega, by simp [entsB, partsB], by simp [partsB], by simp [partsB], by simp, by simp [entsB, partsB]⟩
theorem good_start {p : pl.Pln} (h : pl.planErr p = 0) : goodJ p (startJ p) := by
 have hl := (pl.planErr_ok h).2.1.2.2
 have e0 : entsB ⟨p.limit, [], []⟩ = [] := by simp [entsB, partsB]
 rw [startJ_is h]
 refine ⟨⟨okB_none hl, okB_none hl, by simp [markB], by simp [markB], by simp, rfl, rfl, ?_, ?_, ?_, ?_⟩, ?_⟩
 ·intro y hy; rw [e0] at hy; cases hy
 ·rw [e0]; exact List.nodup_nil
 ·intro y hy; rw [e0] at hy; cases hy
 ·intro y hy; rw [e0] at hy; cases hy
 ·intro y hy; rw [e0] at hy; cases hy
theorem step_right {p : pl.Pln} {s : Jn} (hp : pl.planErr p = 0) (h : goodJ p s) (v : Ev) : stepJ p s v = if eventErr p s v ≠ 0 then (eventErr p s v, j0, []) else if v.kind = 2 then (0, forgetJ p (goOnJ s v.side v.time), []) else (0, rowJ p s v) := by
 have e : joinErr p s = 0 := h.ok.none hp
 unfold stepJ
 rw [if_neg (by rw [e]; exact fun k => k rfl)]
def St1 (K : ByteArray) : Jn := ⟨⟨2, [⟨K, 1, 0, rw2 7 1, false⟩], []⟩, ⟨2, [], []⟩, noMark, noMark, 1⟩
def St2 (K : ByteArray) : Jn := ⟨⟨2, [⟨K, 1, 0, rw2 7 1, true⟩], []⟩, ⟨2, [⟨K, 2, 1, rw2 7 2, true⟩], []⟩, noMark, noMark, 2⟩
def St3 (K : ByteArray) : Jn := ⟨⟨2, [⟨K, 1, 0, rw2 7 1, true⟩], []⟩, ⟨2, [⟨K, 2, 1, rw2 7 2, true⟩], []⟩, 4, noMark, 2⟩
def ch1 : ch.Chg := ⟨1, rw2 7 1 ++ bt.nullRow 2⟩
def ch2 : ch.Chg := ⟨3, rw2 7 1 ++ bt.nullRow 2⟩
def ch3 : ch.Chg := ⟨4, rw2 7 1 ++ rw2 7 2⟩
def ch4 : ch.Chg := ⟨1, rw2 7 4 ++ rw2 7 2⟩
theorem sort_none : sortP [] = [] := by simp [sortP]
theorem sort_one (y : Ent) : sortP [y] = [y] := by simp [sortP]
theorem goneJ_none {p : pl.Pln} {s : Jn} {side : Int} (h : markOf s (3 - side) = noMark) : goneJ p s side = noMark := if_pos h
theorem keep_yes {p : pl.Pln} {s : Jn} {v : Ev} (met : Bool) (h1 : pl.hasB p v.side v.row = true) (h2 : goneJ p s v.side < v.time) : keepJ p s v met = ⟨(putBuf s v.side (moreB (bufOf s v.side) ⟨pl.keyOfS p v.side v.row, v.time, s.seq, v.row, met⟩)).L, (putBuf s v.side (moreB (bufOf s v.side) ⟨pl.keyOfS p v.side v.row, v.time, s.seq, v.row, met⟩)).R, (putBuf s v.side (moreB (bufOf s v.side) ⟨pl.keyOfS p v.side v.row, v.time, s.seq, v.row, met⟩)).lm, (putBuf s v.side (moreB (bufOf s v.side) ⟨pl.keyOfS p v.side v.row, v.time, s.seq, v.row, met⟩)).rm, (putBuf s v.side (moreB (bufOf s v.side) ⟨pl.keyOfS p v.side v.row, v.time, s.seq, v.row, met⟩)).seq + 1⟩ := by
 unfold keepJ
 rw [if_pos ⟨h1, h2⟩]
def St0 : Jn := ⟨⟨2, [], []⟩, ⟨2, [], []⟩, noMark, noMark, 0⟩
theorem more_one (y : Ent) : moreB ⟨2, [], []⟩ y = ⟨2, [y], []⟩ := by
 unfold moreB
 rw [show sortP (([] : List Ent) ++ [y]) = [y] from sort_one y]
 rfl
theorem row_pair {p : pl.Pln} {s : Jn} {v : Ev} (hk : p.kind = 1) : rowJ p s v = (keepJ p (pairMet p s v) v (!(partners p s v).isEmpty), pairTold p s v) := by
 unfold rowJ
 rw [if_neg (by rw [hk]; decide)]
theorem keeps_four (side : Int) : keepsJ 4 side = true := rfl
theorem beg1 {p : pl.Pln} {K : ByteArray} (h : begP p K) : stepJ p (startJ p) ev1 = (0, St1 K, [ch1]) := by
 rw [step_right h.err (good_start h.err), startJ_is h.err, h.limit]
 show (if eventErr p St0 ev1 ≠ 0 then (eventErr p St0 ev1, j0, []) else if ev1.kind = 2 then (0, forgetJ p (goOnJ St0 ev1.side ev1.time), []) else (0, rowJ p St0 ev1)) = _
 have e : eventErr p St0 ev1 = 0 := by
  simp [eventErr, ev1, pl.sideB, tm.fitB, h.e1, markOf, noMark, bufOf, entsB, partsB, St0]
 have e1 : partners p St0 ev1 = [] := by
  simp [partners, ev1, h.h1, scanB, bufOf, entsB, partsB, sort_none, St0]
 have e2 : pairMet p St0 ev1 = St0 := by
  unfold pairMet
  rw [e1]
  rfl
 rw [if_neg (by rw [e]; exact fun k => k rfl), if_neg (by decide), row_pair h.kind, e2, e1, keep_yes _ h.h1 (by rw [goneJ_none rfl]; decide)]
 unfold pairTold
 rw [e1, h.mode]
 show (0, _, _) = _
 have e3 : pl.keyOfS p ev1.side ev1.row = K := h.k1
 rw [e3]
 simp only [ev1, bufOf, putBuf, St0, more_one, keeps_four, aloneR, joinR]
 simp [St1, ch1, h.r, more_one]
theorem good1 {p : pl.Pln} {K : ByteArray} (h : begP p K) : goodJ p (St1 K) := by
 have := good_step (p := p) (s := startJ p) (v := ev1) (good_start h.err).wf ⟨wf_rw2 (by decide) (by decide), by decide⟩ (by rw [beg1 h])
 rw [beg1 h] at this
 exact this
theorem beg2 {p : pl.Pln} {K : ByteArray} (h : begP p K) : stepJ p (St1 K) ev2 = (0, St2 K, [ch2, ch3]) := by
 rw [step_right h.err (good1 h)]
 have e : eventErr p (St1 K) ev2 = 0 := by
  simp [eventErr, ev2, pl.sideB, tm.fitB, h.e2, markOf, noMark, bufOf, entsB, partsB, St1]
 have e1 : partners p (St1 K) ev2 = [⟨K, 1, 0, rw2 7 1, false⟩] := by
  simp [partners, ev2, h.h2, scanB, bufOf, entsB, partsB, sort_one, St1, h.k2, fromJ, toJ, h.kind, h.low, h.high]
 have e2 : pairMet p (St1 K) ev2 = ⟨⟨2, [⟨K, 1, 0, rw2 7 1, true⟩], []⟩, ⟨2, [], []⟩, noMark, noMark, 1⟩ := by
  unfold pairMet
  rw [e1]
  rfl
 rw [if_neg (by rw [e]; exact fun k => k rfl), if_neg (by decide), row_pair h.kind, e2, e1, keep_yes _ h.h2 (by rw [goneJ_none rfl]; decide)]
 unfold pairTold
 rw [e1, h.mode]
 have e3 : pl.keyOfS p ev2.side ev2.row = K := h.k2
 rw [e3]
 simp only [ev2, bufOf, putBuf, more_one, keeps_four, aloneR, joinR]
 simp [St2, ch2, ch3, h.r, more_one]
theorem good2 {p : pl.Pln} {K : ByteArray} (h : begP p K) : goodJ p (St2 K) := by
 have := good_step (p := p) (s := St1 K) (v := ev2) (good1 h).wf ⟨wf_rw2 (by decide) (by decide), by decide⟩ (by rw [beg2 h])
 rw [beg2 h] at this
 exact this
theorem beg3 {p : pl.Pln} {K : ByteArray} (h : begP p K) : stepJ p (St2 K) ev3 = (0, St3 K, []) := by
 rw [step_right h.err (good2 h)]
 have e : eventErr p (St2 K) ev3 = 0 := by
  simp [eventErr, ev3, pl.sideB, tm.fitB, markOf, noMark, St2]
 rw [if_neg (by rw [e]; exact fun k => k rfl), if_pos (show ev3.kind = 2 from rfl)]
 have e1 : goneJ p (St3 K) 1 = noMark := goneJ_none rfl
 have e2 : goneJ p (St3 K) 2 = -1 := by
  unfold goneJ
  rw [if_neg (show markOf (St3 K) (3 - 2) ≠ noMark from show (4 : Int) ≠ noMark by decide)]
  exact h.gone
 have e3 : goOnJ (St2 K) ev3.side ev3.time = St3 K := rfl
 rw [e3]
 simp only [forgetJ, h.kind, dropJ, e1, e2]
 simp [St3, keptB, afterT, noMark, keptR]
theorem good3 {p : pl.Pln} {K : ByteArray} (h : begP p K) : goodJ p (St3 K) := by
 have := good_step (p := p) (s := St2 K) (v := ev3) (good2 h).wf ⟨fun c hc => (by cases hc), by decide⟩ (by rw [beg3 h])
 rw [beg3 h] at this
 exact this
theorem beg4 {p : pl.Pln} {K : ByteArray} (h : begP p K) : stepJ p (St3 K) ev4 = (7, j0, []) := by
 rw [step_right h.err (good3 h)]
 have e : eventErr p (St3 K) ev4 = 7 := by
  simp [eventErr, ev4, pl.sideB, tm.fitB, h.e3, markOf, noMark, St3]
 rw [if_pos (by rw [e]; decide), e]
theorem beg5 {p : pl.Pln} {K : ByteArray} (h : begP p K) : ∃ s, stepJ p (St3 K) ev5 = (0, s, [ch4]) ∧ s.lm = 4 ∧ s.rm = noMark ∧ s.seq = 3 ∧ goodJ p s := by
 have e : eventErr p (St3 K) ev5 = 0 := by
  simp [eventErr, ev5, pl.sideB, tm.fitB, h.e4, markOf, noMark, bufOf, entsB, partsB, St3]
 have e1 : partners p (St3 K) ev5 = [⟨K, 2, 1, rw2 7 2, true⟩] := by
  simp [partners, ev5, h.h4, scanB, bufOf, entsB, partsB, sort_one, St3, h.k4, fromJ, toJ, h.kind, h.low, h.high]
 have e2 : stepJ p (St3 K) ev5 = (0, rowJ p (St3 K) ev5) := by
  rw [step_right h.err (good3 h), if_neg (by rw [e]; exact fun k => k rfl), if_neg (by decide)]
 have e3 : (rowJ p (St3 K) ev5).2 = [ch4] := by
  simp only [rowJ, h.kind, pairTold, e1]
  simp [ev5, keepsJ, h.mode, joinR, ch4]
 have e4 : (rowJ p (St3 K) ev5).1 = keepJ p (pairMet p (St3 K) ev5) ev5 true := by
  simp only [rowJ, h.kind, e1]
  simp
 have g := good_step (p := p) (s := St3 K) (v := ev5) (good3 h).wf ⟨wf_rw2 (by decide) (by decide), by decide⟩ (by rw [e2])
 refine ⟨(rowJ p (St3 K) ev5).1, ?_, ?_, ?_, ?_, ?_⟩
 ·rw [e2, ← e3]
 ·rw [e4]; unfold keepJ; dsimp only; split <;> simp [putBuf, pairMet, ev5, St3]
 ·rw [e4]; unfold keepJ; dsimp only; split <;> simp [putBuf, pairMet, ev5, St3]
 ·rw [e4]; unfold keepJ; dsimp only; split <;> simp [putBuf, pairMet, ev5, St3]
 ·rw [e2] at g; exact g
theorem story_is {p : pl.Pln} {K : ByteArray} (h : begP p K) : ∃ s, playA p storyL = (0, s, [ch1, ch2, ch3, ch4], [3]) ∧ s.lm = 4 ∧ s.rm = noMark ∧ s.seq = 3 := by
 obtain ⟨s, e5, h1, h2, h3, h4⟩ := beg5 h
 refine ⟨s, ?_, h1, h2, h3⟩
 unfold playA
 rw [if_neg (by rw [h.err]; exact fun k => k rfl)]
 unfold playR
 rw [if_neg (by decide)]
 simp only [storyL, playJ, beg1 h, beg2 h, beg3 h, beg4 h, e5]
 simp
def storyC : List ch.Chg := [ch1, ch2, ch3, ch4]
theorem form_story : ch.formErr storyC = 0 := by kernel_rfl
theorem errs0 : ch.errK (ch.kvOf []) storyC 0 = 0 := by kernel_rfl
theorem errs1 : ch.errK (ch.kvOf []) storyC 1 = 0 := by kernel_rfl
theorem errs2 : ch.errK (ch.kvOf []) storyC 2 = 0 := by kernel_rfl
theorem errs3 : ch.errK (ch.kvOf []) storyC 3 = 0 := by kernel_rfl
theorem errs_story : ∀ i, i < 4 → ch.errK (ch.kvOf []) storyC i = 0 := by
 intro i hi
 match i, hi with
 | 0, _ => exact errs0
 | 1, _ => exact errs1
 | 2, _ => exact errs2
 | 3, _ => exact errs3
theorem at_story : (ch.atK (ch.kvOf []) storyC 4).length = 2 := by kernel_rfl
end Go.Proofs.YtdohnkkbkfhphaaGreat.jn
namespace Go.Proofs.YtdohnkkbkfhphaaGreat.jn
open Go.ChangeShapes Go.WideShapes Go.ChangeAt Go.RowKit
open vl bf
set_option linter.unusedVariables false
set_option linter.unusedSimpArgs false
theorem TG.chgs {w : World} {base : Nat} {v : Value} {L : List CO} (h : TG w base v L) : v = .slice (adOf v) L.length (cpOf v) ∧ ch.chgsAt w (adOf v) (L.map CO.chg) := by
 have ho := h.own
 refine ⟨own_is ho, fun i hi => ?_⟩
 have hi2 : i < L.length := by simpa using hi
 rcases ho.2 with ⟨hv, h0⟩ | ⟨g, c, cur, hv, _⟩
 ·omega
 ·have hc := World.ownsRow.cells ho (g := g) (by rw [hv]; rfl)
  obtain ⟨f1, f2⟩ := ch.flatC_at (L.map CO.pair) i (by simpa using hi2)
  obtain ⟨e1, e2⟩ := getD_pair L i hi2
  rw [e1] at f1 f2
  have c1 := hc _ _ f1
  have c2 := hc _ _ f2
  rw [ch.add_at, Nat.zero_add] at c1 c2
  obtain ⟨bs, hr⟩ := h.rows (L.getD i default) (by rw [List.getD_eq_getElem?_getD, List.getElem?_eq_getElem hi2]; exact List.getElem_mem hi2)
  have er := own_is hr
  rw [er] at hr c2
  refine ⟨g, 0, adOf (L.getD i default).rv, cpOf (L.getD i default).rv, by rw [hv]; rfl, ?_, ?_, ?_⟩
  ·rw [e2, Nat.zero_add]; exact c1
  ·rw [e2, Nat.zero_add]; exact c2
  ·rw [e2]; exact vl.ownV_row hr
theorem evs5 {w : World} {b : Nat} {r1 r2 r3 r4 : Option Addr} (c0 : w.cell? ⟨b, 0, none⟩ = some (.int .i64 1)) (c1 : w.cell? ⟨b, 1, none⟩ = some (.int .i64 1)) (c2 : w.cell? ⟨b, 2, none⟩ = some (.int .i64 1)) (c3 : w.cell? ⟨b, 3, none⟩ = some (.slice r1 2 2))
 (c4 : w.cell? ⟨b, 4, none⟩ = some (.int .i64 1)) (c5 : w.cell? ⟨b, 5, none⟩ = some (.int .i64 2)) (c6 : w.cell? ⟨b, 6, none⟩ = some (.int .i64 2)) (c7 : w.cell? ⟨b, 7, none⟩ = some (.slice r2 2 2))
 (c8 : w.cell? ⟨b, 8, none⟩ = some (.int .i64 2)) (c9 : w.cell? ⟨b, 9, none⟩ = some (.int .i64 1)) (c10 : w.cell? ⟨b, 10, none⟩ = some (.int .i64 4)) (c11 : w.cell? ⟨b, 11, none⟩ = some (.slice none 0 0))
 (c12 : w.cell? ⟨b, 12, none⟩ = some (.int .i64 1)) (c13 : w.cell? ⟨b, 13, none⟩ = some (.int .i64 1)) (c14 : w.cell? ⟨b, 14, none⟩ = some (.int .i64 4)) (c15 : w.cell? ⟨b, 15, none⟩ = some (.slice r3 2 2))
 (c16 : w.cell? ⟨b, 16, none⟩ = some (.int .i64 1)) (c17 : w.cell? ⟨b, 17, none⟩ = some (.int .i64 1)) (c18 : w.cell? ⟨b, 18, none⟩ = some (.int .i64 5)) (c19 : w.cell? ⟨b, 19, none⟩ = some (.slice r4 2 2))
 (h1 : vl.rowAt w r1 (rw2 7 1)) (h2 : vl.rowAt w r2 (rw2 7 2)) (h3 : vl.rowAt w r3 (rw2 7 3)) (h4 : vl.rowAt w r4 (rw2 7 4)) : evsAt w (some ⟨b, 0, none⟩) storyL [(r1, 2), (r2, 2), (none, 0), (r3, 2), (r4, 2)] := by
 intro i hi
 match i, hi with
 | 0, _ => exact ⟨b, 0, rfl, c0, c1, c2, c3, h1, wf_rw2 (by decide) (by decide), by decide⟩
 | 1, _ => exact ⟨b, 0, rfl, c4, c5, c6, c7, h2, wf_rw2 (by decide) (by decide), by decide⟩
 | 2, _ => exact ⟨b, 0, rfl, c8, c9, c10, c11, fun i hi => absurd hi (Nat.not_lt_zero i), fun c hc => absurd hc List.not_mem_nil, by decide⟩
 | 3, _ => exact ⟨b, 0, rfl, c12, c13, c14, c15, h3, wf_rw2 (by decide) (by decide), by decide⟩
 | 4, _ => exact ⟨b, 0, rfl, c16, c17, c18, c19, h4, wf_rw2 (by decide) (by decide), by decide⟩
set_option maxRecDepth 100000 in
set_option maxHeartbeats 4000000 in
theorem story_any (w : World) : Calls Tryz.prog 36 #[] w fun e w' => (∃ b xs, e = .returned (.slice (some ⟨b, 0, none⟩) 5 5) ∧ evsAt w' (some ⟨b, 0, none⟩) storyL xs) ∧ Below w.heap.size w w' := by
 go_enter Tryz.func36, Tryz.ntmps36
 go_wp2_with fail
 refine (pl.lawRow_any _ _ _).mono ?_
 rintro e w1 ⟨⟨r1, rfl, hr1⟩, hb1⟩
 have HR1 : Hid (vl.rowAt w1 r1 (rw2 7 1)) := hr1
 clear hr1
 go_wp2_with fail
 refine (pl.lawRow_any _ _ _).mono ?_
 rintro e w2 ⟨⟨r2, rfl, hr2⟩, hb2⟩
 have HR2 : Hid (vl.rowAt w2 r2 (rw2 7 2)) := hr2
 clear hr2
 go_wp2_with fail
 refine (pl.lawRow_any _ _ _).mono ?_
 rintro e w3 ⟨⟨r3, rfl, hr3⟩, hb3⟩
 have HR3 : Hid (vl.rowAt w3 r3 (rw2 7 3)) := hr3
 clear hr3
 go_wp2_with fail
 refine (pl.lawRow_any _ _ _).mono ?_
 rintro e w4 ⟨⟨r4, rfl, hr4⟩, hb4⟩
 have HR4 : Hid (vl.rowAt w4 r4 (rw2 7 4)) := hr4
 clear hr4
 have b24 : Below w2.heap.size w2 w4 := hb3.trans (hb4.mono hb3.size)
 have b14 : Below w1.heap.size w1 w4 := hb2.trans (b24.mono hb2.size)
 have b04 : Below w.heap.size w w4 := hb1.trans (b14.mono hb1.size)
 go_wp2
 generalize hV : (World.alloc w4 _) = W
 have hbW : Below w4.heap.size w4 W := by rw [← hV]; exact bR.alloc nR _
 have HE : Hid (evsAt W (some ⟨w4.heap.size, 0, none⟩) storyL [(r1, 2), (r2, 2), (none, 0), (r3, 2), (r4, 2)]) := evs5 (by subst hV; go_simp) (by subst hV; go_simp) (by subst hV; go_simp) (by subst hV; go_simp) (by subst hV; go_simp) (by subst hV; go_simp) (by subst hV; go_simp) (by subst hV; go_simp) (by subst hV; go_simp) (by subst hV; go_simp) (by subst hV; go_simp) (by subst hV; go_simp) (by subst hV; go_simp) (by subst hV; go_simp) (by subst hV; go_simp) (by subst hV; go_simp) (by subst hV; go_simp) (by subst hV; go_simp) (by subst hV; go_simp) (by subst hV; go_simp)
  (vl.rowAt_below HR1.out (b14.trans (hbW.mono b14.size))) (vl.rowAt_below HR2.out (b24.trans (hbW.mono b24.size))) (vl.rowAt_below HR3.out (hb4.trans (hbW.mono hb4.size))) (vl.rowAt_below HR4.out hbW)
 clear hV
 go_ret
 exact ⟨⟨_, _, rfl, HE.out⟩, b04.trans (hbW.mono b04.size)⟩
theorem play_begun (x : pl.PA) (b : Nat) (xs : List RX) (w : World) (hp : pl.planAt w pl.simpleP x) (hv : evsAt w (some ⟨b, 0, none⟩) storyL xs) : Calls Tryz.prog 19 #[pl.planV pl.simpleP x, .slice (some ⟨b, 0, none⟩) 5 5] w fun e w' => (∃ s y ta tc nb nc, e = .returned (.tuple #[joinV s y, .slice ta 4 tc, .slice (some ⟨nb, 0, none⟩) 1 nc, .int .i64 0]) ∧ s.lm = 4 ∧ s.seq = 3 ∧ ch.chgsAt w' ta storyC ∧ w'.cell? ⟨nb, 0, none⟩ = some (.int .i64 3)) ∧ Below w.heap.size w w' := by
 refine (play_any pl.simpleP x storyL xs _ 5 w pl.wf_simple hp hv (by decide)).mono ?_
 rintro e w' ⟨⟨y, t, L, nv, rfl, hl, hj, ht, hn⟩, hb⟩
 obtain ⟨s, es, h1, h2, h3⟩ := story_is beg_simple
 rw [es] at hl hj hn ⊢
 dsimp only at hl hj hn ⊢
 refine ⟨?_, hb⟩
 obtain ⟨e1, e2⟩ := ht.chgs
 have e3 : L.length = 4 := by
  have := congrArg List.length hl
  simpa using this
 rw [hl] at e2
 rw [e3] at e1
 rcases hn.2 with ⟨hv, h0⟩ | ⟨g, c, cur, hv, _⟩
 ·exact absurd h0 (by simp)
 ·have hc := World.ownsRow.cells hn (g := g) (by rw [hv]; rfl)
  have c0 := hc 0 (.int .i64 3) rfl
  rw [e1, hv]
  exact ⟨s, y, adOf t, cpOf t, g, c, rfl, h1, h3, e2, c0⟩
theorem wf_null (n : Nat) : wfRow (bt.nullRow n) := fun c hc => by
 rw [List.eq_of_mem_replicate hc]
 exact ⟨by decide, by decide⟩
theorem wf_app {a b : List Cel} (ha : wfRow a) (hb : wfRow b) : wfRow (a ++ b) := fun c hc => (List.mem_append.1 hc).elim (ha c) (hb c)
theorem wf_storyC : ch.wfChgs storyC := by
 intro c hc
 simp only [storyC, List.mem_cons, List.not_mem_nil, or_false] at hc
 rcases hc with rfl | rfl | rfl | rfl
 ·exact ⟨wf_app (wf_rw2 (by decide) (by decide)) (wf_null 2), by decide, by decide⟩
 ·exact ⟨wf_app (wf_rw2 (by decide) (by decide)) (wf_null 2), by decide, by decide⟩
 ·exact ⟨wf_app (wf_rw2 (by decide) (by decide)) (wf_rw2 (by decide) (by decide)), by decide, by decide⟩
 ·exact ⟨wf_app (wf_rw2 (by decide) (by decide)) (wf_rw2 (by decide) (by decide)), by decide, by decide⟩
theorem fold_begun (ta : Option Addr) (tc : Nat) (w : World) (h : ch.chgsAt w ta storyC) : Calls Tryz.prog 37 #[.slice none 0 0, .slice ta 4 tc] w fun e w' => (∃ ad cap, e = .returned (.tuple #[.slice ad 2 cap, .int .i64 0, .int .i64 0])) ∧ Below w.heap.size w w' := by
 refine (ch.fold_any none ta 0 tc [] storyC w (fun i hi => absurd hi (Nat.not_lt_zero i)) (fun c hc => absurd hc List.not_mem_nil) (by decide) h wf_storyC (by decide)).mono ?_
 rintro e w' ⟨hr, hb⟩
 refine ⟨?_, hb⟩
 have hv : ch.viewErr [] = 0 := by kernel_rfl
 rcases hr with ⟨h1, _⟩ | ⟨_, h1, _⟩ | ⟨_, _, k, h1, _, h2, _⟩ | ⟨_, _, _, out, ad, cap, e1, _, _, e2, _⟩
 ·exact absurd hv h1
 ·exact absurd form_story h1
 ·exact absurd (errs_story k h1) h2
 ·have := congrArg List.length e1
  rw [show storyC.length = 4 from rfl, at_story] at this
  have : out.length = 2 := by simpa [ch.kvOf] using this
  rw [this] at e2
  exact ⟨ad, cap, e2⟩
set_option maxRecDepth 100000 in
set_option maxHeartbeats 8000000 in
theorem begun_any (w : World) : Calls Tryz.prog 12 #[] w fun e w' => e = .returned (.bool true) ∧ Below w.heap.size w w' := by
 go_enter Tryz.func12, Tryz.ntmps12
 go_wp2_with fail
 refine (pl.simple_any _).mono ?_
 rintro e w1 ⟨⟨x, rfl, hp, _⟩, hb1⟩
 have HP : Hid (pl.planAt w1 pl.simpleP x) := hp
 obtain ⟨pv, hpv⟩ : ∃ z, pl.planV pl.simpleP x = z := ⟨_, rfl⟩
 have HV : Hid (pl.planV pl.simpleP x = pv) := hpv
 rw [hpv]
 clear hp hpv
 go_wp2_with fail
 refine (story_any _).mono ?_
 rintro e w2 ⟨⟨b, xs, rfl, hv⟩, hb2⟩
 have KP : Hid (Calls Tryz.prog 19 #[pv, .slice (some ⟨b, 0, none⟩) 5 5] w2 fun e w' => (∃ s y ta tc nb nc, e = .returned (.tuple #[joinV s y, .slice ta 4 tc, .slice (some ⟨nb, 0, none⟩) 1 nc, .int .i64 0]) ∧ s.lm = 4 ∧ s.seq = 3 ∧ ch.chgsAt w' ta storyC ∧ w'.cell? ⟨nb, 0, none⟩ = some (.int .i64 3)) ∧ Below w2.heap.size w2 w') := by
  have := play_begun x b xs w2 (pl.planAt_below HP.out hb2) hv
  rw [HV.out] at this
  exact this
 have b2 : Below w.heap.size w w2 := hb1.trans (hb2.mono hb1.size)
 clear hv HP HV hb1 hb2
 go_wp2_with fail
 refine KP.out.mono ?_
 rintro e w3 ⟨⟨s, y, ta, tc, nb, nc, rfl, hlm, hsq, hch, hn⟩, hb3⟩
 have b3 : Below w.heap.size w w3 := b2.trans (hb3.mono b2.size)
 have HC : Hid (ch.chgsAt w3 ta storyC) := hch
 have HLM : Hid (s.lm = 4 ∧ s.seq = 3) := ⟨hlm, hsq⟩
 clear KP hch hb3 b2 hlm hsq
 rw [joinV_is]
 go_upto_region 2 with fail
 generalize hV : (World.alloc w3 _) = w4
 have hb4 : Below w3.heap.size w3 w4 := by rw [← hV]; exact bR.alloc nR _
 have HBX : Hid (boxJ w4 w3.heap.size s y) := by
  subst hV
  exact boxJ_new ..
 clear hV
 have b4 : Below w.heap.size w w4 := b3.trans (hb4.mono b3.size)
 have n4 := cLz hb4 hn
 obtain ⟨_, _, _, _, _, _, u6, _, u8⟩ := HBX.out
 rw [HLM.out.1] at u6
 rw [HLM.out.2] at u8
 have KF : Hid (Calls Tryz.prog 37 #[.slice none 0 0, .slice ta 4 tc] w4 fun e w' => (∃ ad cap, e = .returned (.tuple #[.slice ad 2 cap, .int .i64 0, .int .i64 0])) ∧ Below w4.heap.size w4 w') := fold_begun ta tc w4 (ch.chgsAt_below HC.out hb4)
 clear hn HC hb4 b3 HBX
 go_wp2_with fail
 refine KF.out.mono ?_
 rintro e w5 ⟨⟨ad, cap, rfl⟩, hb5⟩
 have b5 : Below w.heap.size w w5 := b4.trans (hb5.mono b4.size)
 have n5 := cLz hb5 n4
 have v6 := cLz hb5 u6
 have v8 := cLz hb5 u8
 clear KF n4 u6 u8 hb5 b4
 go_wp2
 go_ret
 exact ⟨rfl, b5⟩
end Go.Proofs.YtdohnkkbkfhphaaGreat.jn
namespace Go.Proofs.YtdohnkkbkfhphaaGreat.jn
open Go.RowKit
open vl bf
set_option linter.unusedVariables false
set_option linter.unusedSimpArgs false
theorem step_zero {p : pl.Pln} {s : Jn} {v : Ev} (h0 : (stepJ p s v).1 = 0) : joinErr p s = 0 ∧ eventErr p s v = 0 := by
 unfold stepJ at h0
 split at h0
 ·rename_i k; exact absurd h0 k
 ·rename_i k1
  split at h0
  ·rename_i k; exact absurd h0 k
  ·rename_i k2
   exact ⟨by simpa using k1, by simpa using k2⟩
def endE (side : Int) : Ev := ⟨2, side, 1099511627776, []⟩
theorem mark_max {p : pl.Pln} {s : Jn} (h : goodJ p s) (side : Int) : markOf s side ≤ 1099511627776 := by
 have key : ∀ m, markB m = true → m ≤ 1099511627776 := by
  intro m hm
  unfold markB at hm
  simp only [Bool.or_eq_true, decide_eq_true_eq, tm.fit_iff] at hm
  rcases hm with e | e
  ·rw [e]; decide
  ·exact e.2
 unfold markOf
 split
 ·exact key _ h.ok.rm
 ·exact key _ h.ok.lm
theorem end_err {p : pl.Pln} {s : Jn} (h : goodJ p s) {side : Int} (hs : pl.sideB side = true) : eventErr p s (endE side) = 0 := by
 have hm := mark_max h side
 unfold eventErr endE
 rw [if_neg (by simp [hs]), if_neg (show ¬ tm.fitB 1099511627776 = false by decide), if_pos rfl, if_neg (by simp), if_neg (show ¬ (1099511627776 : Int) < markOf s side by omega)]
theorem end_step {p : pl.Pln} {s : Jn} (hp : pl.planErr p = 0) (h : goodJ p s) {side : Int} (hs : pl.sideB side = true) : stepJ p s (endE side) = (0, forgetJ p (goOnJ s side 1099511627776), []) := by
 rw [step_right hp h, if_neg (by rw [end_err h hs]; exact fun k => k rfl), if_pos (show (endE side).kind = 2 from rfl)]
 rfl
theorem wf_end (side : Int) : wfV (endE side) := ⟨fun c hc => absurd hc List.not_mem_nil, Nat.zero_le _⟩
theorem end_good {p : pl.Pln} {s : Jn} (hp : pl.planErr p = 0) (h : goodJ p s) {side : Int} (hs : pl.sideB side = true) : goodJ p (forgetJ p (goOnJ s side 1099511627776)) := by
 have := good_step (v := endE side) h.wf (wf_end side) (by rw [end_step hp h hs])
 rw [end_step hp h hs] at this
 exact this
theorem forget_lm (p : pl.Pln) (s : Jn) : (forgetJ p s).lm = s.lm := by
 unfold forgetJ oldJ dropJ
 split <;> rfl
def endJ (p : pl.Pln) (s : Jn) : Jn := forgetJ p (goOnJ (forgetJ p (goOnJ s 1 1099511627776)) 2 1099511627776)
theorem endJ_good {p : pl.Pln} {s : Jn} (hp : pl.planErr p = 0) (h : goodJ p s) : goodJ p (endJ p s) := end_good hp (end_good hp h (side := 1) (by decide)) (side := 2) (by decide)
theorem endJ_lm (p : pl.Pln) (s : Jn) : (endJ p s).lm = 1099511627776 := by
 unfold endJ
 rw [forget_lm]
 show (forgetJ p (goOnJ s 1 1099511627776)).lm = _
 rw [forget_lm]
 rfl
theorem gone_max {p : pl.Pln} {s : Jn} (hp : pl.planErr p = 0) {side : Int} (hs : pl.sideB side = true) (hm : markOf s (3 - side) = 1099511627776) (hk : p.kind ≠ 3 ∨ side = 1) : goneJ p s side = 1099511627776 := by
 unfold goneJ
 rw [hm, if_neg (by decide)]
 unfold pl.goneV pl.goneErr
 rw [if_pos hp, if_pos hs, if_pos (by decide)]
 show pl.goneAt p side 1099511627776 = _
 unfold pl.goneAt
 split
 ·exact if_pos rfl
 ·split
  ·exact if_pos rfl
  ·rename_i k1 k2
   have hkk := (pl.planErr_ok hp).1.1
   rcases hk with e | e
   ·omega
   ·rw [if_neg (by omega)]
theorem ent_fit {b : Buf} (h : okB b) {y : Ent} (hy : y ∈ entsB b) : tm.fitB y.time = true := by
 unfold entsB at hy
 obtain ⟨l, h1, h2⟩ := List.mem_flatten.1 hy
 exact (h.fine l h1 y h2).2.2.1
theorem none_after {b : Buf} (h : okB b) : entsB (keptB (afterT 1099511627776) b) = [] := by
 rw [kept_ents, List.filter_eq_nil_iff]
 intro y hy
 have := (tm.fit_iff _).1 (ent_fit h hy)
 unfold afterT
 simp only [decide_eq_true_eq]
 omega
theorem endJ_none {p : pl.Pln} {s : Jn} (hp : pl.planErr p = 0) (h : goodJ p s) : entsB (endJ p s).L = [] ∧ (p.kind ≠ 3 → entsB (endJ p s).R = []) := by
 have h1 := end_good hp h (side := 1) (by decide)
 have hlm : (forgetJ p (goOnJ s 1 1099511627776)).lm = 1099511627776 := by rw [forget_lm]; rfl
 unfold endJ
 generalize forgetJ p (goOnJ s 1 1099511627776) = t at h1 hlm
 have e1 : goneJ p (goOnJ t 2 1099511627776) 1 = 1099511627776 := gone_max hp (by decide) rfl (.inr rfl)
 refine ⟨?_, fun hk => ?_⟩
 ·have : (forgetJ p (goOnJ t 2 1099511627776)).L = keptB (afterT 1099511627776) t.L := by
   unfold forgetJ oldJ dropJ
   rw [e1]
   split <;> rfl
  rw [this]
  exact none_after h1.ok.L
 ·have e2 : goneJ p (goOnJ t 2 1099511627776) 2 = 1099511627776 := gone_max hp (by decide) hlm (.inl hk)
  have : (forgetJ p (goOnJ t 2 1099511627776)).R = keptB (afterT 1099511627776) t.R := by
   unfold forgetJ dropJ
   rw [e2, if_neg hk]
   rfl
  rw [this]
  exact none_after h1.ok.R
theorem endJ_once {p : pl.Pln} {s : Jn} (hp : pl.planErr p = 0) (h : goodJ p s) {l : List Ent} (hl : l.Perm (entsB (endJ p s).R)) (i : Nat) (hi : i + 1 < l.length) : (l.getD (i + 1) default).key ≠ (l.getD i default).key := by
 by_cases hk : p.kind = 3
 ·have h1 := end_good hp h (side := 1) (by decide)
  have hg := endJ_good hp h
  have hlm : (forgetJ p (goOnJ s 1 1099511627776)).lm = 1099511627776 := by rw [forget_lm]; rfl
  have hn : (l.map (·.seq)).Nodup := by
   have := hg.ok.once
   rw [List.map_append] at this
   exact ((hl.map (·.seq)).nodup_iff).2 (List.nodup_append.1 this).2.1
  have key : ∃ f : ByteArray → Int, ∀ y ∈ entsB (endJ p s).R, y.seq = f y.key := by
   unfold endJ
   generalize forgetJ p (goOnJ s 1 1099511627776) = t at h1 hlm
   have e : forgetJ p (goOnJ t 2 1099511627776) = oldJ (dropJ p (goOnJ t 2 1099511627776)) := if_pos hk
   rw [e]
   have hd : goodJ p (dropJ p (goOnJ t 2 1099511627776)) := good_drop (good_on h1 2 1099511627776 (by decide))
   have hlow : lowJ (dropJ p (goOnJ t 2 1099511627776)) = 1099511627776 := by
    show min t.lm 1099511627776 = _
    rw [hlm]
    rfl
   generalize dropJ p (goOnJ t 2 1099511627776) = u at hd hlow
   refine ⟨fun k => lastOf u k 1099511627776, fun y hy => ?_⟩
   have hy : y ∈ entsB (keptB (fun y => decide (lowJ u < y.time) || decide (lastOf u y.key (lowJ u) = y.seq)) u.R) := hy
   rw [kept_ents, List.mem_filter, hlow] at hy
   obtain ⟨k1, k2⟩ := hy
   have := (tm.fit_iff _).1 (ent_fit hd.ok.R k1)
   simp only [Bool.or_eq_true, decide_eq_true_eq] at k2
   rcases k2 with k | k
   ·omega
   ·exact k.symm
  obtain ⟨f, hf⟩ := key
  intro e
  have m1 := hf _ (hl.mem_iff.1 (mem_getD (d := default) hi))
  have m2 := hf _ (hl.mem_iff.1 (mem_getD (d := default) (show i < l.length by omega)))
  rw [e, ← m2] at m1
  have hi' : i < l.length := by omega
  have := List.pairwise_iff_getElem.1 hn i (i + 1) (by rw [List.length_map]; omega) (by rw [List.length_map]; omega) (by omega)
  rw [List.getElem_map, List.getElem_map] at this
  rw [List.getD_eq_getElem?_getD, List.getD_eq_getElem?_getD, List.getElem?_eq_getElem hi, List.getElem?_eq_getElem hi'] at m1
  exact this m1.symm
 ·rw [(endJ_none hp h).2 hk] at hl
  rw [hl.eq_nil] at hi
  exact absurd hi (by simp)
theorem endJ_late {p : pl.Pln} {s : Jn} (hp : pl.planErr p = 0) (h : goodJ p s) (t : Int) (r : List Cel) : (stepJ p (endJ p s) ⟨1, 1, t, r⟩).1 ≠ 0 := by
 intro h0
 obtain ⟨_, h2⟩ := step_zero h0
 have hc := come_of h2 (show (1 : Int) ≠ 2 by decide)
 have h3 := (tm.fit_iff _).1 hc.time
 have h4 : (endJ p s).lm < t := hc.late
 rw [endJ_lm] at h4
 have : t ≤ 1099511627776 := h3.2
 omega
theorem play_good {p : pl.Pln} : ∀ (l : List Ev) (s : Jn) (i : Nat), goodJ p s → (∀ v ∈ l, wfV v) → goodJ p (playJ p s l i).1
 | [], s, i, h, _ => h
 | v :: l, s, i, h, hv => by
  have hv' : ∀ u ∈ l, wfV u := fun u hu => hv u (List.mem_cons_of_mem _ hu)
  rw [playJ]
  split
  ·exact play_good l s (i + 1) h hv'
  ·rename_i h0
   exact play_good l _ (i + 1) (good_step h.wf (hv v (List.mem_cons_self ..)) (by simpa using h0)) hv'
theorem playA_good {p : pl.Pln} {l : List Ev} (hv : ∀ v ∈ l, wfV v) (h0 : (playA p l).1 = 0) : pl.planErr p = 0 ∧ goodJ p (playA p l).2.1 := by
 unfold playA at h0 ⊢
 split at h0
 ·rename_i h; exact absurd h0 h
 ·rename_i h
  have hp : pl.planErr p = 0 := by simpa using h
  rw [if_neg h]
  unfold playR at h0 ⊢
  split at h0
  ·cases h0
  ·rename_i h2
   rw [if_neg h2]
   exact ⟨hp, play_good l _ 0 (good_start hp) hv⟩
theorem playA_err {p : pl.Pln} {l : List Ev} (h0 : (playA p l).1 ≠ 0) : (playA p l).1 = 2 ∨ (playA p l).1 = pl.planErr p := by
 unfold playA at h0 ⊢
 split
 ·exact .inr rfl
 ·unfold playR
  split
  ·exact .inl rfl
  ·rename_i h h2
   rw [if_neg h] at h0
   unfold playR at h0
   rw [if_neg h2] at h0
   exact absurd rfl h0
end Go.Proofs.YtdohnkkbkfhphaaGreat.jn
namespace Go.Proofs.YtdohnkkbkfhphaaGreat.jn
open Go.ChangeShapes Go.WideShapes Go.ChangeAt Go.RowKit
open vl bf
set_option linter.unusedVariables false
set_option linter.unusedSimpArgs false
def entsAt (w : World) (a : Option Addr) (l : List Ent) : Prop :=
 ∀ i, i < l.length → ∃ b off ra rc, a = some ⟨b, off, none⟩ ∧ w.cell? ⟨b, off + i * 5, none⟩ = some (.string (l.getD i default).key) ∧ w.cell? ⟨b, off + i * 5 + 1, none⟩ = some (.int .i64 (l.getD i default).time) ∧
  w.cell? ⟨b, off + i * 5 + 1 + 1, none⟩ = some (.int .i64 (l.getD i default).seq) ∧ w.cell? ⟨b, off + i * 5 + 1 + 1 + 1, none⟩ = some (.slice ra (l.getD i default).row.length rc) ∧ w.cell? ⟨b, off + i * 5 + 1 + 1 + 1 + 1, none⟩ = some (.bool (l.getD i default).met) ∧ vl.rowAt w ra (l.getD i default).row
theorem OE.entsAt {w : World} {base : Nat} {hh : Hdr} {es : List EM} {l : List Ent} (h : OE w base (hdV hh) es l) : hh.2.1 = l.length ∧ entsAt w hh.1 l ∧ l.length ≤ 9223372036854775807 := by
 obtain ⟨⟨e1, e2⟩, e3⟩ := OE_part (p := (hh, es)) h
 dsimp only at e1 e2 e3
 have hl := h.len
 refine ⟨e1.trans hl, fun i hi => ?_, by omega⟩
 obtain ⟨b, o, e, x1, x2, x3, x4, x5⟩ := e3 i (by omega)
 have hr := h.ers.2 i hi
 rw [hr.key] at x1
 rw [hr.time] at x2
 rw [hr.seq] at x3
 rw [hr.met] at x5
 unfold hdV at x4
 rw [hr.len] at x4
 exact ⟨b, o, _, _, e, x1, x2, x3, x4, x5, hr.row⟩
theorem okB_few {b : Buf} (h : okB b) : (entsB b).length ≤ 4611686018427387904 := by
 have := h.all
 omega
theorem all_law (b : Buf) (x : BX) (w : World) (h : bufAt w b x) (hok : okB b) (hw : ∀ y ∈ entsB b, wfE y ∧ wfP (plOf y)) :
 Calls Tryz.prog 26 #[bufV b x] w fun e w' => (∃ ad cap l', e = .returned (.tuple #[.slice ad (List.length l') cap, .int .i64 0]) ∧ l'.Perm (entsB b) ∧ Rise l' ∧ entsAt w' ad l') ∧ Below w.heap.size w w' := by
 refine (bf.all_ok b x w h hw (okB_few hok) (errB_zero hok)).mono ?_
 rintro e w' ⟨⟨hh, es, l', rfl, hp, hby, ho⟩, hb⟩
 obtain ⟨e1, e2, e3⟩ := OE.entsAt ho
 refine ⟨⟨hh.1, hh.2.2, l', ?_, hp, rise_of hby ((perm_once hp).2 hok.once), e2⟩, hb⟩
 unfold hdV
 rw [e1]
end Go.Proofs.YtdohnkkbkfhphaaGreat.jn
