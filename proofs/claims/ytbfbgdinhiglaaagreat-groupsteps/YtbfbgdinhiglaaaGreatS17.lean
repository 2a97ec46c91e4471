import Derived.Test.YtbfbgdinhiglaaaGreatS16
import Derived.Test.YtbfbgdinhiglaaaGreatMgPlnB
namespace Go.Proofs.YtbfbgdinhiglaaaGreat.gr
open Go.ChangeShapes Go.WideShapes Go.ChangeAt Go.RowKit
open vl pl bt
set_option linter.unusedVariables false
set_option linter.unusedSimpArgs false
attribute [local go_sem] Oper.semAt_some
set_option maxRecDepth 100000 in
set_option maxHeartbeats 4000000 in
theorem bag1_any (i A C X : Nat) (ta : Option Addr) (tc : Nat) (l : List Tal) (aa ca : Option Addr) (ac cc : Nat) (aggs : List (Int × Int)) (c : List Int) (n : Int) (w : World)
 (hA : w.cell? ⟨A, 0, none⟩ = some (.slice aa aggs.length ac)) (hC : w.cell? ⟨C, 0, none⟩ = some (.slice ca c.length cc)) (hX : w.cell? ⟨X, 1, none⟩ = some (.int .i64 n))
 (ha : aggsAt w aa aggs) (hc : intsAt w ca c) (hb : bagAt w ta l) (hi : i < aggs.length) (hal : aggs.length ≤ 9223372036854775807) (hcl : c.length ≤ 9223372036854775807) (hcol : 0 ≤ (aggs.getD i (0, 0)).2 ∧ (aggs.getD i (0, 0)).2.toNat < c.length)
 (hl : l.length ≤ 9223372036854775807) (hn : i64 n) (hw : ∀ t ∈ l, t.1.s.size ≤ maxLen ∧ i64 t.1.n ∧ i64 t.2) :
 Calls Tryz.prog 126 #[.int .i64 (i : Nat), .slice ta l.length tc, .pointer (some ⟨A, 0, none⟩), .pointer (some ⟨C, 0, none⟩), .pointer (some ⟨X, 0, none⟩)] w fun e w' => e = .returned (.bool (bagB c (aggs.getD i (0, 0)) n l)) ∧ Below w.heap.size w w' := by
 have KT : Hid (∀ w1, Below w.heap.size w w1 → Calls Tryz.prog 127 #[.slice ta l.length tc, .int .i64 (c.getD (aggs.getD i (0, 0)).2.toNat 0), .int .i64 n] w1 fun e w' => e = .returned (.bool (talsB (c.getD (aggs.getD i (0, 0)).2.toNat 0) n none l)) ∧ Below w1.heap.size w1 w') := fun w1 h1 => talliesRight_any ta tc l _ n w1 hl (bagAt_below hb h1) hn hw
 obtain ⟨R, hR⟩ : ∃ z, bagB c (aggs.getD i (0, 0)) n l = z := ⟨_, rfl⟩
 have HR : Hid (bagB c (aggs.getD i (0, 0)) n l = R) := hR
 unfold bagB at HR
 rw [hR]
 clear hR
 obtain ⟨b1, o1, e1, x1, x2⟩ := ha i hi
 subst e1
 obtain ⟨hc0, hc1⟩ := hcol
 obtain ⟨b2, o2, e2, x3⟩ := hc (aggs.getD i (0, 0)).2.toNat hc1
 subst e2
 obtain ⟨⟨fn, col⟩, hz⟩ : ∃ z, aggs.getD i (0, 0) = z := ⟨_, rfl⟩
 rw [hz] at x1 x2 x3 HR KT hc0 hc1
 dsimp only at x1 x2 x3 HR KT hc0 hc1
 obtain ⟨cl, rfl⟩ := Int.eq_ofNat_of_zero_le hc0
 simp only [Int.toNat_natCast] at x3 HR KT hc1
 obtain ⟨cv, hcv⟩ : ∃ z, c.getD cl 0 = z := ⟨_, rfl⟩
 rw [hcv] at x3 HR KT
 obtain ⟨ln, hln⟩ : ∃ z, l.length = z := ⟨_, rfl⟩
 obtain ⟨an, han⟩ : ∃ z, aggs.length = z := ⟨_, rfl⟩
 obtain ⟨cn, hcn⟩ : ∃ z, c.length = z := ⟨_, rfl⟩
 rw [hln] at KT HR hl ⊢
 rw [han] at hA hi hal
 rw [hcn] at hC hc1 hcl
 have i1 : (0 : Int) ≤ (i : Int) := by omega
 have i2 : (i : Int) < (an : Int) := by omega
 have j1 : (0 : Int) ≤ (cl : Int) := by omega
 have j2 : (cl : Int) < (cn : Int) := by omega
 clear hz hcv hln han hcn ha hc hb hn hw hc0
 by_cases h1 : fn = 1
 ·subst h1
  by_cases h9 : ln = 0
  ·subst h9
   have HE : Hid (true = R) := by show _ = _; rw [← HR.out, if_pos rfl]; rfl
   go_enter Tryz.func126, Tryz.ntmps126
   go_wp2
   go_ret
   exact ⟨ret_bool HE.out, bR⟩
  ·have HE : Hid (false = R) := by show _ = _; rw [← HR.out, if_pos rfl]; simp [h9]
   have h9' : ((ln : Int) == 0) = false := by simp; omega
   go_enter Tryz.func126, Tryz.ntmps126
   go_wp2
   go_ret
   exact ⟨ret_bool (by rw [← HE.out]), bR⟩
 ·have h1' : (fn == 1) = false := by simpa using h1
  have HE : Hid (talsB cv n none l = R) := by show _ = _; rw [← HR.out, if_neg h1]
  rw [HE.out] at KT
  go_enter Tryz.func126, Tryz.ntmps126
  go_wp2
  go_region_held3 (fun w' => w'.cell? ⟨A, 0, none⟩ = some (.slice (some ⟨b1, o1, none⟩) an ac) ∧ w'.cell? ⟨C, 0, none⟩ = some (.slice (some ⟨b2, o2, none⟩) cn cc) ∧ w'.cell? ⟨X, 1, none⟩ = some (.int .i64 n) ∧ w'.cell? ⟨b1, o1 + i * 2 + 1, none⟩ = some (.int .i64 (cl : Int)) ∧ w'.cell? ⟨b2, o2 + cl, none⟩ = some (.int .i64 cv)) (first | exact ⟨cL hq1 hA, cL hq1 hC, cL hq1 hX, cL hq1 x2, cL hq1 x3⟩ | go_keep)
   (first | (go_at_call 127; refine (KT.out w.drew bR.drew).mono ?_; rintro e y1 ⟨rfl, hy1⟩; have hq1 : Below w.heap.size w y1 := bR.drew.trans hy1))
  all_goals
   go_wp2
   go_ret
   exact ⟨rfl, hq1⟩
set_option maxHeartbeats 4000000 in
theorem bagsRight_any (aa ca : Option Addr) (ac cc : Nat) (aggs : List (Int × Int)) (c : List Int) (x : GX) (g : Grp) (w : World) (ha : aggsAt w aa aggs) (hc : intsAt w ca c) (hg : gAt w x g) (hw : wfG g) (hal : aggs.length ≤ 9223372036854775807) (hcl : c.length ≤ 9223372036854775807) (hcol : ∀ i, i < aggs.length → 0 ≤ (aggs.getD i (0, 0)).2 ∧ (aggs.getD i (0, 0)).2.toNat < c.length) :
 Calls Tryz.prog 77 #[.slice aa aggs.length ac, .slice ca c.length cc, grpV x g] w fun e w' => e = .returned (.bool (bagsB c aggs g)) ∧ Below w.heap.size w w' := by
 have hmem : ∀ i, i < g.bags.length → g.bags.getD i [] ∈ g.bags := fun i hi => by rw [List.getD_eq_getElem?_getD, List.getElem?_eq_getElem hi]; exact List.getElem_mem hi
 have KE : Hid (∀ A C X w1, Below w.heap.size w w1 → g.bags.length = aggs.length → w1.cell? ⟨A, 0, none⟩ = some (.slice aa aggs.length ac) → w1.cell? ⟨C, 0, none⟩ = some (.slice ca c.length cc) → w1.cell? ⟨X, 1, none⟩ = some (.int .i64 g.n) →
  Calls Tryz.prog 125 #[.slice x.b g.bags.length x.bc, .func (.func 126) #[] #[.pointer (some ⟨A, 0, none⟩), .pointer (some ⟨C, 0, none⟩), .pointer (some ⟨X, 0, none⟩)]] w1 fun e w' => e = .returned (.bool (allB g.bags.length (fun i => bagB c (aggs.getD i (0, 0)) g.n (g.bags.getD i [])))) ∧ Below w1.heap.size w1 w') := fun A C X w1 hb1 hlen hA hC hX => by
  have k := everyBag_any 126 (enters_of Tryz.func126 (by kernel_rfl) rfl) #[.pointer (some ⟨A, 0, none⟩), .pointer (some ⟨C, 0, none⟩), .pointer (some ⟨X, 0, none⟩)] (fun i => bagB c (aggs.getD i (0, 0)) g.n (g.bags.getD i [])) x.b x.bc x.hs w1 (by rw [hg.len]; exact hw.bl) (hdrsAt_below hg.hs hb1) (fun i w2 hi hb2 => by
   have hi2 : i < g.bags.length := by rw [← hg.len]; exact hi
   have hb3 := hb1.trans (hb2.mono hb1.size)
   rw [hg.hl i hi2]
   exact bag1_any i A C X _ _ (g.bags.getD i []) aa ca ac cc aggs c g.n w2 (cL hb2 hA) (cL hb2 hC) (cL hb2 hX) (aggsAt_below ha hb3) (intsAt_below hc hb3) (bagAt_below (hg.bag i hi2) hb3) (by omega) hal hcl (hcol i (by omega)) (hw.tl _ (hmem i hi2)).1 hw.n (hw.tl _ (hmem i hi2)).2)
  rw [hg.len] at k
  exact k
 obtain ⟨R, hR⟩ : ∃ z, bagsB c aggs g = z := ⟨_, rfl⟩
 have HR : Hid (bagsB c aggs g = R) := hR
 unfold bagsB at HR
 rw [hR]
 have hbl := hw.bl
 clear hR ha hc hg hw hcol hmem
 unfold grpV
 obtain ⟨AB, hAB⟩ : ∃ z, allB g.bags.length (fun i => bagB c (aggs.getD i (0, 0)) g.n (g.bags.getD i [])) = z := ⟨_, rfl⟩
 rw [hAB] at KE HR
 obtain ⟨bn, hbn⟩ : ∃ z, g.bags.length = z := ⟨_, rfl⟩
 obtain ⟨an, han⟩ : ∃ z, aggs.length = z := ⟨_, rfl⟩
 obtain ⟨cn, hcn⟩ : ∃ z, c.length = z := ⟨_, rfl⟩
 obtain ⟨rn, hrn⟩ : ∃ z, g.row.length = z := ⟨_, rfl⟩
 obtain ⟨gn, hgn⟩ : ∃ z, g.n = z := ⟨_, rfl⟩
 obtain ⟨xr, xrc, xb, xbc, xh⟩ := x
 dsimp only at KE ⊢
 rw [hbn, han, hcn, hgn] at KE
 rw [hbn, han] at HR
 rw [hbn] at hbl
 rw [han] at hal
 rw [hbn, han, hcn, hrn, hgn]
 clear hAB hbn han hcn hrn hgn
 have hb0 : Below w.heap.size w (((w.alloc (.cells #[.slice aa an ac] 23)).alloc (.cells #[.slice ca cn cc] 22)).alloc (.cells #[.slice xr rn xrc, .int .i64 gn, .slice xb bn xbc] 53)) := by
  repeat (first | exact bR | (refine Below.alloc ?_ (by simp <;> omega) _))
 by_cases h1 : bn = an
 ·subst h1
  have HE : Hid (AB = R) := by show _ = _; rw [← HR.out]; simp
  have KE2 : Hid (∀ w1, Below w.heap.size w w1 → w1.cell? ⟨w.heap.size, 0, none⟩ = some (.slice aa bn ac) → w1.cell? ⟨w.heap.size + 1, 0, none⟩ = some (.slice ca cn cc) → w1.cell? ⟨w.heap.size + 1 + 1, 1, none⟩ = some (.int .i64 gn) → Calls Tryz.prog 125 #[.slice xb bn xbc, .func (.func 126) #[] #[.pointer (some ⟨w.heap.size, 0, none⟩), .pointer (some ⟨w.heap.size + 1, 0, none⟩), .pointer (some ⟨w.heap.size + 1 + 1, 0, none⟩)]] w1 fun e w' => e = .returned (.bool AB) ∧ Below w1.heap.size w1 w') := fun w1 hb h1 h2 h3 => KE.out _ _ _ w1 hb rfl h1 h2 h3
  clear KE HR
  go_enter Tryz.func77, Tryz.ntmps77
  go_wp2_with (go_at_call 125; refine (KE2.out _ hb0 (by go_simp) (by go_simp) (by go_simp)).mono ?_; rintro e w1 ⟨rfl, hb1⟩)
  go_ret
  exact ⟨ret_bool HE.out, hb0.trans (hb1.mono hb0.size)⟩
 ·have h1' : ((bn : Int) == (an : Int)) = false := by simp; omega
  have HE : Hid (false = R) := by show _ = _; rw [← HR.out]; simp [h1]
  clear KE HR
  go_enter Tryz.func77, Tryz.ntmps77
  go_wp2
  go_ret
  exact ⟨ret_bool HE.out, hb0⟩
end Go.Proofs.YtbfbgdinhiglaaaGreat.gr
namespace Go.Proofs.YtbfbgdinhiglaaaGreat.gr
open Go.ChangeShapes Go.WideShapes Go.ChangeAt Go.RowKit
set_option linter.unusedVariables false
theorem beginH {P : Program} {ops : Array Oper} {Q : Exit → Act → World → Prop} {S : World → Prop} {id : Nat} {a : Act} {w : World} (N : Nat) (hn : ops.size = N) (hm : P.follows .mixedOrders = true) (hS : S w.drew)
 (h : S w.drew → wpAnyH P .any ops Q S N (Array.replicate N false) a w.drew) : (Code.region id ops true).wp P Q a w :=
 wp_region_held_drew hm hS (by rw [hn]; exact h)
theorem skipJ {P : Program} {md : Region.Mode} {ops : Array Oper} {Q : Exit → Act → World → Prop} {S : World → Prop} {fuel : Nat} {listed : Array Bool} {a a' : Act} {w : World} {oi : Oper} (i : Nat) (d : Option Tmp) (hS : S w) (h : wpAnyH P md ops Q S fuel (listed.setIfInBounds i true) a' w)
 (hi : ops[i]? = some oi := by exact rfl) (hk : (Region.noSelect ops && (Region.free md ops listed i && (Region.ready md ops listed).contains i)) = true := by kernel_rfl) (hd : oi.dst = d := by exact rfl) (hw : Region.wanted oi (yielded ops a.tmps) = false := by exact rfl) (ha : a.put d undef = a' := by (simp only [Act.put, sI, sZ, sS]; exact rfl))
 (hQ : ∀ c a w, Q (.panic c) (a.put oi.dst undef) w → Q (.panic c) a w := by exact fun _ _ _ h => h) : wpAnyH P md ops Q S (fuel + 1) listed a w := by
 rw [Bool.and_eq_true, Bool.and_eq_true] at hk
 exact wpAnyH_take hi hk.1 hk.2.1 hk.2.2 hQ (Or.inr ⟨hw, rfl⟩) hS (by rw [hd, ha]; exact h)
theorem takeJ {P : Program} {md : Region.Mode} {ops : Array Oper} {Q : Exit → Act → World → Prop} {S : World → Prop} {fuel : Nat} {listed : Array Bool} {a a' : Act} {w : World} {oi : Oper} {v : Value} (i : Nat) (d : Option Tmp) (hS : S w) (h : wpAnyH P md ops Q S fuel (listed.setIfInBounds i true) a' w)
 (hi : ops[i]? = some oi := by exact rfl) (hk : (Region.noSelect ops && (Region.free md ops listed i && (Region.ready md ops listed).contains i)) = true := by kernel_rfl) (hd : oi.dst = d := by exact rfl) (hw : Region.wanted oi (yielded ops a.tmps) = true := by exact rfl) (hy : ∀ w, S w → (execOp a.eval oi).run P w = .ok (.value v) w := by (intro w' hSw; (try dsimp only at hSw); first | (go_simp; done) | (go_simp; with_reducible rfl))) (ha : a.put d v = a' := by (simp only [Act.put, sI, sZ, sS]; exact rfl))
 (hQ : ∀ c a w, Q (.panic c) (a.put oi.dst v) w → Q (.panic c) a w := by exact fun _ _ _ h => h) : wpAnyH P md ops Q S (fuel + 1) listed a w := by
 rw [Bool.and_eq_true, Bool.and_eq_true] at hk
 exact wpAnyH_take hi hk.1 hk.2.1 hk.2.2 hQ (Or.inl ⟨hw, hy⟩) hS (by rw [hd, ha]; exact h)
theorem sk {P : Program} {md : Region.Mode} {ops : Array Oper} {Q : Exit → Act → World → Prop} {S : World → Prop} {fuel : Nat} {listed : Array Bool} {a a' : Act} {w : World} {oi : Oper} (i : Nat) (d : Nat) (hS : S w) (h : wpAnyH P md ops Q S fuel (listed.setIfInBounds i true) a' w)
 (hi : ops[i]? = some oi := by exact rfl) (hk : (Region.noSelect ops && (Region.free md ops listed i && (Region.ready md ops listed).contains i)) = true := by kernel_rfl) (hd : oi.dst = some d := by exact rfl) (hw : Region.wanted oi (yielded ops a.tmps) = false := by exact rfl) (ha : a.put (some d) undef = a' := by (simp only [Act.put, sI, sZ, sS]; exact rfl))
 (hQ : ∀ c a w, Q (.panic c) (a.put oi.dst undef) w → Q (.panic c) a w := by exact fun _ _ _ h => h) : wpAnyH P md ops Q S (fuel + 1) listed a w := by
 rw [Bool.and_eq_true, Bool.and_eq_true] at hk
 exact wpAnyH_take hi hk.1 hk.2.1 hk.2.2 hQ (Or.inr ⟨hw, rfl⟩) hS (by rw [hd, ha]; exact h)
theorem tk {P : Program} {md : Region.Mode} {ops : Array Oper} {Q : Exit → Act → World → Prop} {S : World → Prop} {fuel : Nat} {listed : Array Bool} {a a' : Act} {w : World} {oi : Oper} {v : Value} (i : Nat) (d : Nat) (hS : S w) (h : wpAnyH P md ops Q S fuel (listed.setIfInBounds i true) a' w)
 (hi : ops[i]? = some oi := by exact rfl) (hk : (Region.noSelect ops && (Region.free md ops listed i && (Region.ready md ops listed).contains i)) = true := by kernel_rfl) (hd : oi.dst = some d := by exact rfl) (hw : Region.wanted oi (yielded ops a.tmps) = true := by exact rfl) (hy : ∀ w, S w → (execOp a.eval oi).run P w = .ok (.value v) w := by (intro w' hSw; (try dsimp only at hSw); first | (go_simp; done) | (go_simp; with_reducible rfl))) (ha : a.put (some d) v = a' := by (simp only [Act.put, sI, sZ, sS]; exact rfl))
 (hQ : ∀ c a w, Q (.panic c) (a.put oi.dst v) w → Q (.panic c) a w := by exact fun _ _ _ h => h) : wpAnyH P md ops Q S (fuel + 1) listed a w := by
 rw [Bool.and_eq_true, Bool.and_eq_true] at hk
 exact wpAnyH_take hi hk.1 hk.2.1 hk.2.2 hQ (Or.inl ⟨hw, hy⟩) hS (by rw [hd, ha]; exact h)
end Go.Proofs.YtbfbgdinhiglaaaGreat.gr
