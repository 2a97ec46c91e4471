import Derived.Test.YtbfbgdinhiglaaaGreatS14
import Derived.Shelf.Spec.SlicesInsertGrow
import Derived.Test.YtbfbgdinhiglaaaGreatS13
import Derived.Test.YtbfbgdinhiglaaaGreatS9
namespace Go.Proofs.YtbfbgdinhiglaaaGreat.gr
open Go.ChangeShapes Go.WideShapes Go.ChangeAt Go.RowKit
open vl pl bt
set_option linter.unusedVariables false
set_option linter.unusedSimpArgs false
attribute [local go_sem] Oper.semAt_some
theorem step_append_runI {P : Program} {ops : Array Oper} {o : Oper} {a : Act} {w : World} {K : Act → World → Prop} {Q : Exit → Act → World → Prop} {E : Prop}
 (hg : o.guard = none) (d x : Operand) (dT sT : TypeId) (hop : o.op = Op.call { callee := Callee.builtin Builtin.append, args := #[d, x], argTypes := #[dT, sT] })
 (v u : Value) (hd : a.eval d = v) (hx : a.eval x = u) {v' : Value} {w' : World} (hr : (Builtin.append_ #[dT, sT] o.type #[v, u]).run P w = .ok v' w') (hK : K (a.put o.dst v') w') :
 if Region.wanted o (yielded ops a.tmps) = true then Oper.wp P o a w K Q else E := by
 have hw : Region.wanted o (yielded ops a.tmps) = true := by simp [Region.wanted, hg]
 rw [if_pos hw]
 unfold Oper.wp
 simp [execOp, hop, resolve, invoke, builtin, hd, hx, hr, Result.andThen]
 exact hK
set_option maxRecDepth 100000 in
set_option maxHeartbeats 4000000 in
theorem delT_any (g m cap i : Nat) (A x C : List Value) (base : Nat) (w : World) (ho : w.ownsRow base 82 4 (.slice (some ⟨g, 0, none⟩) (i + 1 + m) cap) (i + 1 + m) (A ++ x ++ C)) (hA : A.length = i * 4) (hx : x.length = 4) (hn : i + 1 + m ≤ 1073741824) (hone : ∀ u ∈ C, u.oneCell' = true) :
 Calls Tryz.prog 129 #[.slice (some ⟨g, 0, none⟩) (i + 1 + m) cap, .int .i64 i, .int .i64 ((i : Int) + 1)] w fun e w' => e = .returned (.slice (some ⟨g, 0, none⟩) (i + m) cap) ∧ w'.ownsRow base 82 4 (.slice (some ⟨g, 0, none⟩) (i + m) cap) (i + m) (A ++ C) ∧ (∀ b, b ≠ g → w'.heap[b]? = w.heap[b]?) ∧ w'.heap.size = w.heap.size ∧ Below g w w' := by
 obtain ⟨i0, hii, hz0, hz1, hz2⟩ := info_parts infoT
 have hcap : i + 1 + m ≤ cap := by
  rcases ho.2 with ⟨hv, _⟩ | ⟨g', cap', cur, hv, h1, hg, h2, h3, h4, h5⟩
  ·cases hv
  ·cases hv; exact h2
 have hC : C.length = m * 4 := by
  have := ho.1
  rw [List.length_append, List.length_append, hA, hx] at this
  omega
 have hd1 := ch.own_below ho bR.drew
 obtain ⟨ad, had⟩ : ∃ a : Addr, (if cap = i + 1 then (⟨g, 0, none⟩ : Addr) else ⟨g, (i + 1) * 4, none⟩) = a := ⟨_, rfl⟩
 have hA2 : (if cap = i + 1 then some (⟨g, 0, none⟩ : Addr) else some ⟨g, (i + 1) * 4, none⟩) = some ad := by rw [← had]; split <;> rfl
 obtain ⟨w1, y, hrun1, hown1, hyl, hs1, hb1, hbel1⟩ := own_out hd1 61 i0 Tryz.underlying61 hii hz1 61 i m hA hx hC rfl hone ad (fun h => by rw [← had]; exact if_neg (by omega)) (cap - (i + 1))
 obtain ⟨w2, hrun2, hown2, hs2, hb2, hbel2⟩ := own_cut (n := i + m) (s := 4) (by rw [show i + m + 1 = i + 1 + m by omega]; exact hown1) 61 i0 (.agg #[.int .i64 0, .int .i64 0, .string ⟨#[]⟩, .int .i64 0]) Tryz.underlying61 hii hz0 rfl (by kernel_rfl) (by intro v hv; simp [Value.cells] at hv; rcases hv with rfl | rfl | rfl <;> rfl) 0 (by rw [List.length_append, hA, hC, Nat.add_mul]) hyl (cap - (i + m))
 have HF : Hid (w2.ownsRow base 82 4 (.slice (some ⟨g, 0, none⟩) (i + m) cap) (i + m) (A ++ C) ∧ (∀ b, b ≠ g → w2.heap[b]? = w.heap[b]?) ∧ w2.heap.size = w.heap.size ∧ Below g w w2) := ⟨hown2, fun b hb => (hb2 b hb).trans (hb1 b hb), hs2.trans hs1, ((Below.refl g w).drew.trans hbel1).trans hbel2⟩
 have HR1 : Hid ((Builtin.append_ #[61, 61] 61 #[.slice (some ⟨g, 0, none⟩) i cap, .slice (some ad) m (cap - (i + 1))]).run Tryz.prog w.drew = .ok (.slice (some ⟨g, 0, none⟩) (i + m) cap) w1) := hrun1
 have mixed : Tryz.prog.follows .mixedOrders = true := by kernel_rfl
 have hcm : cap ≤ maxLen := by
  rcases ho.2 with ⟨hv, _⟩ | ⟨g', cap', cur, hv, h1, hg, h2, h3, h4, h5⟩
  ·cases hv
  ·cases hv; exact h3
 clear had hrun1 hown1 hown2 hs1 hs2 hb1 hb2 hbel1 hbel2 hd1 ho hone hyl hA hx hC
 obtain ⟨n, hn1⟩ : ∃ n, i + 1 + m = n := ⟨_, rfl⟩
 rw [hn1] at hcap hn ⊢
 have e1 : ((i : Int) == (i : Int) + 1) = false := by simp; omega
 have e2 : (0 : Int) ≤ (i : Int) := by omega
 have e3 : (i : Int) ≤ (i : Int) + 1 := by omega
 have e4 : (i : Int) + 1 ≤ (n : Int) := by omega
 have e5 : (n : Int) ≤ (cap : Int) := by omega
 have e6 : ((i : Int) + 1).toNat = i + 1 := by omega
 have e7 : (0 : Int) ≤ (i : Int) + 1 := by omega
 have e8 : (i : Int) ≤ (n : Int) := by omega
 have e9 : i ≤ n := by omega
 have e10 : n - (i + 1) = m := by omega
 have e11 : i ≤ cap := by omega
 have e12 : n - (i + m) = 1 := by omega
 have e13 : ¬ (cap = i + m) := by omega
 have e14 : (i : Int) + (m : Int) ≤ (n : Int) := by omega
 have e15 : (0 : Int) ≤ (i : Int) + (m : Int) := by omega
 have e16 : ((i : Int) + (m : Int)).toNat = i + m := by omega
 have e17 : n ≤ cap := by omega
 have e18 : i + m ≤ n := by omega
 go_enter Tryz.func129, Tryz.ntmps129
 go_wp2
 go_region_law_o (refine step_append_runI rfl _ _ 61 61 rfl (.slice (some ⟨g, 0, none⟩) i cap) (.slice (some ad) m (cap - (i + 1))) (by simp [Act.eval, Act.put]) (by simp [Act.eval, Act.put, hA2, e10]) HR1.out ?_)
 go_wp2
 go_ret
 exact ⟨rfl, HF.out⟩
set_option maxRecDepth 100000 in
set_option maxHeartbeats 4000000 in
theorem delG_any (g m cap i : Nat) (A x C : List Value) (base : Nat) (w : World) (ho : w.ownsRow base 53 3 (.slice (some ⟨g, 0, none⟩) (i + 1 + m) cap) (i + 1 + m) (A ++ x ++ C)) (hA : A.length = i * 3) (hx : x.length = 3) (hn : i + 1 + m ≤ 1073741824) (hone : ∀ u ∈ C, u.oneCell' = true) :
 Calls Tryz.prog 84 #[.slice (some ⟨g, 0, none⟩) (i + 1 + m) cap, .int .i64 i, .int .i64 ((i : Int) + 1)] w fun e w' => e = .returned (.slice (some ⟨g, 0, none⟩) (i + m) cap) ∧ w'.ownsRow base 53 3 (.slice (some ⟨g, 0, none⟩) (i + m) cap) (i + m) (A ++ C) ∧ (∀ b, b ≠ g → w'.heap[b]? = w.heap[b]?) ∧ w'.heap.size = w.heap.size ∧ Below g w w' := by
 obtain ⟨i0, hii, hz0, hz1, hz2⟩ := info_parts infoG
 have hcap : i + 1 + m ≤ cap := by
  rcases ho.2 with ⟨hv, _⟩ | ⟨g', cap', cur, hv, h1, hg, h2, h3, h4, h5⟩
  ·cases hv
  ·cases hv; exact h2
 have hC : C.length = m * 3 := by
  have := ho.1
  rw [List.length_append, List.length_append, hA, hx] at this
  omega
 have hd1 := ch.own_below ho bR.drew
 obtain ⟨ad, had⟩ : ∃ a : Addr, (if cap = i + 1 then (⟨g, 0, none⟩ : Addr) else ⟨g, (i + 1) * 3, none⟩) = a := ⟨_, rfl⟩
 have hA2 : (if cap = i + 1 then some (⟨g, 0, none⟩ : Addr) else some ⟨g, (i + 1) * 3, none⟩) = some ad := by rw [← had]; split <;> rfl
 obtain ⟨w1, y, hrun1, hown1, hyl, hs1, hb1, hbel1⟩ := own_out hd1 26 i0 Tryz.underlying26 hii hz1 26 i m hA hx hC rfl hone ad (fun h => by rw [← had]; exact if_neg (by omega)) (cap - (i + 1))
 obtain ⟨w2, hrun2, hown2, hs2, hb2, hbel2⟩ := own_cut (n := i + m) (s := 3) (by rw [show i + m + 1 = i + 1 + m by omega]; exact hown1) 26 i0 (.agg #[.slice none 0 0, .int .i64 0, .slice none 0 0]) Tryz.underlying26 hii hz0 rfl (by kernel_rfl) (by intro v hv; simp [Value.cells] at hv; rcases hv with rfl | rfl | rfl <;> rfl) 0 (by rw [List.length_append, hA, hC, Nat.add_mul]) hyl (cap - (i + m))
 have HF : Hid (w2.ownsRow base 53 3 (.slice (some ⟨g, 0, none⟩) (i + m) cap) (i + m) (A ++ C) ∧ (∀ b, b ≠ g → w2.heap[b]? = w.heap[b]?) ∧ w2.heap.size = w.heap.size ∧ Below g w w2) := ⟨hown2, fun b hb => (hb2 b hb).trans (hb1 b hb), hs2.trans hs1, ((Below.refl g w).drew.trans hbel1).trans hbel2⟩
 have HR1 : Hid ((Builtin.append_ #[26, 26] 26 #[.slice (some ⟨g, 0, none⟩) i cap, .slice (some ad) m (cap - (i + 1))]).run Tryz.prog w.drew = .ok (.slice (some ⟨g, 0, none⟩) (i + m) cap) w1) := hrun1
 have mixed : Tryz.prog.follows .mixedOrders = true := by kernel_rfl
 have hcm : cap ≤ maxLen := by
  rcases ho.2 with ⟨hv, _⟩ | ⟨g', cap', cur, hv, h1, hg, h2, h3, h4, h5⟩
  ·cases hv
  ·cases hv; exact h3
 clear had hrun1 hown1 hown2 hs1 hs2 hb1 hb2 hbel1 hbel2 hd1 ho hone hyl hA hx hC
 obtain ⟨n, hn1⟩ : ∃ n, i + 1 + m = n := ⟨_, rfl⟩
 rw [hn1] at hcap hn ⊢
 have e1 : ((i : Int) == (i : Int) + 1) = false := by simp; omega
 have e2 : (0 : Int) ≤ (i : Int) := by omega
 have e3 : (i : Int) ≤ (i : Int) + 1 := by omega
 have e4 : (i : Int) + 1 ≤ (n : Int) := by omega
 have e5 : (n : Int) ≤ (cap : Int) := by omega
 have e6 : ((i : Int) + 1).toNat = i + 1 := by omega
 have e7 : (0 : Int) ≤ (i : Int) + 1 := by omega
 have e8 : (i : Int) ≤ (n : Int) := by omega
 have e9 : i ≤ n := by omega
 have e10 : n - (i + 1) = m := by omega
 have e11 : i ≤ cap := by omega
 have e12 : n - (i + m) = 1 := by omega
 have e13 : ¬ (cap = i + m) := by omega
 have e14 : (i : Int) + (m : Int) ≤ (n : Int) := by omega
 have e15 : (0 : Int) ≤ (i : Int) + (m : Int) := by omega
 have e16 : ((i : Int) + (m : Int)).toNat = i + m := by omega
 have e17 : n ≤ cap := by omega
 have e18 : i + m ≤ n := by omega
 go_enter Tryz.func84, Tryz.ntmps84
 go_wp2
 go_region_law_o (refine step_append_runI rfl _ _ 26 26 rfl (.slice (some ⟨g, 0, none⟩) i cap) (.slice (some ad) m (cap - (i + 1))) (by simp [Act.eval, Act.put]) (by simp [Act.eval, Act.put, hA2, e10]) HR1.out ?_)
 go_wp2
 go_ret
 exact ⟨rfl, HF.out⟩
set_option maxHeartbeats 4000000 in
set_option maxRecDepth 100000 in
theorem searchG_any (fn : FuncId) (eg : ∀ args w, (callFunc fn args).run Tryz.prog w = .ok (.enter fn args) w) (F : Nat → Int) (a : Option Addr) (cap : Nat) (xs : List GX) (l : List Grp) (ra : Option Addr) (rn rc : Nat) (w : World) (hl : l.length < 4611686018427387904) (ha : gsAt w a xs l)
 (H : ∀ i w1, i < l.length → Below w.heap.size w w1 → Calls Tryz.prog fn #[grpV (xs.getD i default) (l.getD i default), .slice ra rn rc] w1 fun e w' => e = .returned (.int .i64 (F i)) ∧ Below w1.heap.size w1 w') (hm : ∀ a b, a ≤ b → b < l.length → F b < 0 → F a < 0) :
 Calls Tryz.prog 81 #[.slice a l.length cap, .slice ra rn rc, .func (.func fn) #[] #[]] w fun e w' =>
  (∃ i : Nat, i ≤ l.length ∧ e = .returned (.tuple #[.int .i64 i, .bool (decide (i < l.length) && decide (F i = 0))]) ∧ (∀ t, t < i → F t < 0) ∧ (∀ t, i ≤ t → t < l.length → 0 ≤ F t)) ∧ Below w.heap.size w w' := by
 have HH : Hid (∀ i w1, i < l.length → Below w.heap.size w w1 → Calls Tryz.prog fn #[grpV (xs.getD i default) (l.getD i default), .slice ra rn rc] w1 fun e w' => e = .returned (.int .i64 (F i)) ∧ Below w1.heap.size w1 w') := H
 have M : Hid (∀ a b, a ≤ b → b < l.length → F b < 0 → F a < 0) := hm
 clear H hm
 obtain ⟨n, hn⟩ : ∃ n, l.length = n := ⟨_, rfl⟩
 have HN : Hid (l.length = n) := hn
 rw [hn] at hl HH M ⊢
 clear hn
 go_enter Tryz.func81, Tryz.ntmps81
 go_wp2
 go_loopw [9, 10] (fun s9 s10 wr => ∃ lo hi : Nat, s9 = .int .i64 lo ∧ s10 = .int .i64 hi ∧ lo ≤ hi ∧ hi ≤ n ∧ Below w.heap.size w wr ∧ Hid ((∀ t, t < lo → F t < 0) ∧ (∀ t, hi ≤ t → t < n → 0 ≤ F t))) (fun s9 s10 _ => (intOf s10).toNat - (intOf s9).toNat)
 case atStart => exact ⟨0, n, rfl, rfl, Nat.zero_le _, Nat.le_refl _, bR, (⟨fun t ht => absurd ht (Nat.not_lt_zero _), fun t h1 h2 => by omega⟩ : (∀ t, t < 0 → F t < 0) ∧ (∀ t, n ≤ t → t < n → 0 ≤ F t))⟩
 case round =>
  obtain ⟨lo, hi, rfl, rfl, hlh, hin, hnx, I⟩ := hrel
  by_cases hlt : lo < hi
  ·obtain ⟨b, o, e, x1, x2, x3⟩ := ha.cells ((lo + hi) / 2) (by rw [HN.out]; omega)
   subst e
   have q1 := cL hnx x1
   have q2 := cL hnx x2
   have q3 := cL hnx x3
   have KK : Hid (∀ w1, Below wr.heap.size wr w1 → _) := fun w1 hb => HH.out ((lo + hi) / 2) w1 (by omega) (hnx.trans (hb.mono hnx.size))
   unfold grpV at KK
   clear ha x1 x2 x3
   by_cases hy : F ((lo + hi) / 2) < 0
   ·go_wp2_with (go_at_fn fn; refine (KK.out _ bR).mono ?_; rintro e w' ⟨rfl, hb'⟩)
    go_roundw
    case rel =>
     have I2 : Hid ((∀ t, t < (lo + hi) / 2 + 1 → F t < 0) ∧ (∀ t, hi ≤ t → t < n → 0 ≤ F t)) := ⟨fun t ht => M.out t ((lo + hi) / 2) (by omega) (by omega) hy, I.out.2⟩
     exact ⟨(lo + hi) / 2 + 1, hi, by rw [show ((lo : Int) + (hi : Int)) / 2 + 1 = (((lo + hi) / 2 + 1 : Nat) : Int) by omega], rfl, by omega, hin, hnx.trans (hb'.mono hnx.size), I2⟩
    case measure => simp [intOf]; omega
   ·go_wp2_with (go_at_fn fn; refine (KK.out _ bR).mono ?_; rintro e w' ⟨rfl, hb'⟩)
    go_roundw
    case rel =>
     have I2 : Hid ((∀ t, t < lo → F t < 0) ∧ (∀ t, (lo + hi) / 2 ≤ t → t < n → 0 ≤ F t)) := ⟨I.out.1, fun t ht htn => Int.not_lt.1 fun h => by have := M.out ((lo + hi) / 2) t ht htn h; omega⟩
     exact ⟨lo, (lo + hi) / 2, rfl, by rw [show ((lo : Int) + (hi : Int)) / 2 = (((lo + hi) / 2 : Nat) : Int) by omega], by omega, by omega, hnx.trans (hb'.mono hnx.size), I2⟩
    case measure => simp [intOf]; omega
  ·obtain rfl : hi = lo := by omega
   by_cases hlt2 : hi < n
   ·obtain ⟨b, o, e, x1, x2, x3⟩ := ha.cells hi (by rw [HN.out]; omega)
    subst e
    have q1 := cL hnx x1
    have q2 := cL hnx x2
    have q3 := cL hnx x3
    have KK : Hid (∀ w1, Below wr.heap.size wr w1 → _) := fun w1 hb => HH.out hi w1 (by omega) (hnx.trans (hb.mono hnx.size))
    unfold grpV at KK
    clear ha x1 x2 x3
    by_cases hy : F hi = 0
    ·have hy' : (F hi == 0) = true := by simpa using hy
     go_wp2_with (go_at_fn fn; refine (KK.out _ bR).mono ?_; rintro e w' ⟨rfl, hb'⟩)
     go_ret2
     exact ⟨⟨hi, by omega, by simp [hy, hlt2], I.out.1, I.out.2⟩, hnx.trans (hb'.mono hnx.size)⟩
    ·go_wp2_with (go_at_fn fn; refine (KK.out _ bR).mono ?_; rintro e w' ⟨rfl, hb'⟩)
     go_ret2
     exact ⟨⟨hi, by omega, by simp [hy, hlt2], I.out.1, I.out.2⟩, hnx.trans (hb'.mono hnx.size)⟩
   ·clear ha
    go_wp2
    go_ret2
    exact ⟨⟨hi, by omega, by simp [hlt2], I.out.1, I.out.2⟩, hnx⟩
set_option maxHeartbeats 4000000 in
set_option maxRecDepth 100000 in
theorem searchT_any (fn : FuncId) (eg : ∀ args w, (callFunc fn args).run Tryz.prog w = .ok (.enter fn args) w) (F : Nat → Int) (a : Option Addr) (cap : Nat) (l : List Tal) (tk tn : Int) (ts : ByteArray) (w : World) (hl : l.length < 4611686018427387904) (ha : bagAt w a l)
 (H : ∀ i w1, i < l.length → Below w.heap.size w w1 → Calls Tryz.prog fn #[.agg #[.int .i64 (l.getD i default).1.k, .int .i64 (l.getD i default).1.n, .string (l.getD i default).1.s, .int .i64 (l.getD i default).2], .agg #[.int .i64 tk, .int .i64 tn, .string ts]] w1 fun e w' => e = .returned (.int .i64 (F i)) ∧ Below w1.heap.size w1 w') (hm : ∀ a b, a ≤ b → b < l.length → F b < 0 → F a < 0) :
 Calls Tryz.prog 157 #[.slice a l.length cap, .agg #[.int .i64 tk, .int .i64 tn, .string ts], .func (.func fn) #[] #[]] w fun e w' =>
  (∃ i : Nat, i ≤ l.length ∧ e = .returned (.tuple #[.int .i64 i, .bool (decide (i < l.length) && decide (F i = 0))]) ∧ (∀ t, t < i → F t < 0) ∧ (∀ t, i ≤ t → t < l.length → 0 ≤ F t)) ∧ Below w.heap.size w w' := by
 have HH : Hid (∀ i w1, i < l.length → Below w.heap.size w w1 → Calls Tryz.prog fn #[.agg #[.int .i64 (l.getD i default).1.k, .int .i64 (l.getD i default).1.n, .string (l.getD i default).1.s, .int .i64 (l.getD i default).2], .agg #[.int .i64 tk, .int .i64 tn, .string ts]] w1 fun e w' => e = .returned (.int .i64 (F i)) ∧ Below w1.heap.size w1 w') := H
 have M : Hid (∀ a b, a ≤ b → b < l.length → F b < 0 → F a < 0) := hm
 clear H hm
 obtain ⟨n, hn⟩ : ∃ n, l.length = n := ⟨_, rfl⟩
 have HN : Hid (l.length = n) := hn
 rw [hn] at hl HH M ⊢
 clear hn
 go_enter Tryz.func157, Tryz.ntmps157
 go_wp2
 generalize hV : (World.alloc w _) = V
 have hb0 : Below w.heap.size w V := by rw [← hV]; exact bR.alloc nR _
 have v0 : V.cell? ⟨w.heap.size, 0, none⟩ = some (.int .i64 tk) := by subst hV; go_simp
 have v1 : V.cell? ⟨w.heap.size, 1, none⟩ = some (.int .i64 tn) := by subst hV; go_simp
 have v2 : V.cell? ⟨w.heap.size, 2, none⟩ = some (.string ts) := by subst hV; go_simp
 clear hV
 go_loopw [9, 10] (fun s9 s10 wr => ∃ lo hi : Nat, s9 = .int .i64 lo ∧ s10 = .int .i64 hi ∧ lo ≤ hi ∧ hi ≤ n ∧ Below V.heap.size V wr ∧ Hid ((∀ t, t < lo → F t < 0) ∧ (∀ t, hi ≤ t → t < n → 0 ≤ F t))) (fun s9 s10 _ => (intOf s10).toNat - (intOf s9).toNat)
 case atStart => exact ⟨0, n, rfl, rfl, Nat.zero_le _, Nat.le_refl _, bR, (⟨fun t ht => absurd ht (Nat.not_lt_zero _), fun t h1 h2 => by omega⟩ : (∀ t, t < 0 → F t < 0) ∧ (∀ t, n ≤ t → t < n → 0 ≤ F t))⟩
 case round =>
  obtain ⟨lo, hi, rfl, rfl, hlh, hin, hnx, I⟩ := hrel
  have r0 := cL hnx v0
  have r1 := cL hnx v1
  have r2 := cL hnx v2
  have hnw : Below w.heap.size w wr := hb0.trans (hnx.mono hb0.size)
  have lw : w.heap.size < wr.heap.size := World.block_lt_of_cell? _ _ r0
  by_cases hlt : lo < hi
  ·obtain ⟨m, hm⟩ : ∃ m, (lo + hi) / 2 = m := ⟨_, rfl⟩
   have hme : ((lo : Int) + (hi : Int)) / 2 = (m : Int) := by omega
   have m1 : m < hi := by omega
   have m2 : lo ≤ m := by omega
   obtain ⟨b, o, e, x1, x2, x3, x4⟩ := ha m (by rw [HN.out]; omega)
   subst e
   have q1 := cL hnw x1
   have q2 := cL hnw x2
   have q3 := cL hnw x3
   have q4 := cL hnw x4
   have KK : Hid (∀ w1, Below wr.heap.size wr w1 → _) := fun w1 hb => HH.out m w1 (by omega) (hnw.trans (hb.mono hnw.size))
   obtain ⟨⟨⟨xk, xn, xs⟩, xm⟩, hz⟩ : ∃ z, l.getD m default = z := ⟨_, rfl⟩
   rw [hz] at q1 q2 q3 q4 KK
   dsimp only at q1 q2 q3 q4 KK
   clear ha x1 x2 x3 x4 hz
   have i1 : (0 : Int) ≤ (m : Int) := by omega
   have i2 : (m : Int) < (n : Int) := by omega
   by_cases hy : F m < 0
   ·go_wp2
    go_region_held3 (fun w' => w'.cell? ⟨b, o + m * 4, none⟩ = some (.int .i64 xk) ∧ w'.cell? ⟨b, o + m * 4 + 1, none⟩ = some (.int .i64 xn) ∧ w'.cell? ⟨b, o + m * 4 + 2, none⟩ = some (.string xs) ∧ w'.cell? ⟨b, o + m * 4 + 3, none⟩ = some (.int .i64 xm) ∧ w'.cell? ⟨w.heap.size, 0, none⟩ = some (.int .i64 tk) ∧ w'.cell? ⟨w.heap.size, 1, none⟩ = some (.int .i64 tn) ∧ w'.cell? ⟨w.heap.size, 2, none⟩ = some (.string ts)) (first | exact ⟨cL hQ1 q1, cL hQ1 q2, cL hQ1 q3, cL hQ1 q4, cL hQ1 r0, cL hQ1 r1, cL hQ1 r2⟩ | go_keep)
    (first | (go_at_fn fn; refine (KK.out _ bR.drew).mono ?_; rintro e w' ⟨rfl, hb'⟩; have hQ1 : Below wr.heap.size wr w' := bR.drew.trans hb'))
    all_goals
     go_wp2
     go_roundw
     case rel =>
      have I2 : Hid ((∀ t, t < m + 1 → F t < 0) ∧ (∀ t, hi ≤ t → t < n → 0 ≤ F t)) := ⟨fun t ht => M.out t m (by omega) (by omega) hy, I.out.2⟩
      exact ⟨m + 1, hi, by go_num, rfl, by omega, hin, hnx.trans (hQ1.mono hnx.size), I2⟩
     case measure => simp [intOf]; omega
   ·go_wp2
    go_region_held3 (fun w' => w'.cell? ⟨b, o + m * 4, none⟩ = some (.int .i64 xk) ∧ w'.cell? ⟨b, o + m * 4 + 1, none⟩ = some (.int .i64 xn) ∧ w'.cell? ⟨b, o + m * 4 + 2, none⟩ = some (.string xs) ∧ w'.cell? ⟨b, o + m * 4 + 3, none⟩ = some (.int .i64 xm) ∧ w'.cell? ⟨w.heap.size, 0, none⟩ = some (.int .i64 tk) ∧ w'.cell? ⟨w.heap.size, 1, none⟩ = some (.int .i64 tn) ∧ w'.cell? ⟨w.heap.size, 2, none⟩ = some (.string ts)) (first | exact ⟨cL hQ1 q1, cL hQ1 q2, cL hQ1 q3, cL hQ1 q4, cL hQ1 r0, cL hQ1 r1, cL hQ1 r2⟩ | go_keep)
    (first | (go_at_fn fn; refine (KK.out _ bR.drew).mono ?_; rintro e w' ⟨rfl, hb'⟩; have hQ1 : Below wr.heap.size wr w' := bR.drew.trans hb'))
    all_goals
     go_wp2
     go_roundw
     case rel =>
      have I2 : Hid ((∀ t, t < lo → F t < 0) ∧ (∀ t, m ≤ t → t < n → 0 ≤ F t)) := ⟨I.out.1, fun t ht htn => Int.not_lt.1 fun h => by have := M.out m t ht htn h; omega⟩
      exact ⟨lo, m, rfl, rfl, by omega, by omega, hnx.trans (hQ1.mono hnx.size), I2⟩
     case measure => simp [intOf]; omega
  ·obtain rfl : hi = lo := by omega
   by_cases hlt2 : hi < n
   ·obtain ⟨b, o, e, x1, x2, x3, x4⟩ := ha hi (by rw [HN.out]; omega)
    subst e
    have q1 := cL hnw x1
    have q2 := cL hnw x2
    have q3 := cL hnw x3
    have q4 := cL hnw x4
    have KK : Hid (∀ w1, Below wr.heap.size wr w1 → _) := fun w1 hb => HH.out hi w1 (by omega) (hnw.trans (hb.mono hnw.size))
    obtain ⟨⟨⟨xk, xn, xs⟩, xm⟩, hz⟩ : ∃ z, l.getD hi default = z := ⟨_, rfl⟩
    rw [hz] at q1 q2 q3 q4 KK
    dsimp only at q1 q2 q3 q4 KK
    clear ha x1 x2 x3 x4 hz
    have i1 : (0 : Int) ≤ (hi : Int) := by omega
    have i2 : (hi : Int) < (n : Int) := by omega
    by_cases hy : F hi = 0
    ·have hy' : (F hi == 0) = true := by simpa using hy
     go_wp2
     go_region_held3 (fun w' => w'.cell? ⟨b, o + hi * 4, none⟩ = some (.int .i64 xk) ∧ w'.cell? ⟨b, o + hi * 4 + 1, none⟩ = some (.int .i64 xn) ∧ w'.cell? ⟨b, o + hi * 4 + 2, none⟩ = some (.string xs) ∧ w'.cell? ⟨b, o + hi * 4 + 3, none⟩ = some (.int .i64 xm) ∧ w'.cell? ⟨w.heap.size, 0, none⟩ = some (.int .i64 tk) ∧ w'.cell? ⟨w.heap.size, 1, none⟩ = some (.int .i64 tn) ∧ w'.cell? ⟨w.heap.size, 2, none⟩ = some (.string ts)) (first | exact ⟨cL hQ1 q1, cL hQ1 q2, cL hQ1 q3, cL hQ1 q4, cL hQ1 r0, cL hQ1 r1, cL hQ1 r2⟩ | go_keep)
    (first | (go_at_fn fn; refine (KK.out _ bR.drew).mono ?_; rintro e w' ⟨rfl, hb'⟩; have hQ1 : Below wr.heap.size wr w' := bR.drew.trans hb'))
     all_goals
      go_wp2
      go_ret2
      exact ⟨⟨hi, by omega, by simp [hy, hlt2], I.out.1, I.out.2⟩, hnw.trans (hQ1.mono hnw.size)⟩
    ·have hy' : (F hi == 0) = false := by simpa using hy
     go_wp2
     go_region_held3 (fun w' => w'.cell? ⟨b, o + hi * 4, none⟩ = some (.int .i64 xk) ∧ w'.cell? ⟨b, o + hi * 4 + 1, none⟩ = some (.int .i64 xn) ∧ w'.cell? ⟨b, o + hi * 4 + 2, none⟩ = some (.string xs) ∧ w'.cell? ⟨b, o + hi * 4 + 3, none⟩ = some (.int .i64 xm) ∧ w'.cell? ⟨w.heap.size, 0, none⟩ = some (.int .i64 tk) ∧ w'.cell? ⟨w.heap.size, 1, none⟩ = some (.int .i64 tn) ∧ w'.cell? ⟨w.heap.size, 2, none⟩ = some (.string ts)) (first | exact ⟨cL hQ1 q1, cL hQ1 q2, cL hQ1 q3, cL hQ1 q4, cL hQ1 r0, cL hQ1 r1, cL hQ1 r2⟩ | go_keep)
    (first | (go_at_fn fn; refine (KK.out _ bR.drew).mono ?_; rintro e w' ⟨rfl, hb'⟩; have hQ1 : Below wr.heap.size wr w' := bR.drew.trans hb'))
     all_goals
      go_wp2
      go_ret2
      exact ⟨⟨hi, by omega, by simp [hy, hlt2], I.out.1, I.out.2⟩, hnw.trans (hQ1.mono hnw.size)⟩
   ·clear ha
    go_wp2
    go_quiet (fail)
    go_wp2
    go_ret2
    exact ⟨⟨hi, by omega, by simp [hlt2], I.out.1, I.out.2⟩, below_drewN hnw _⟩
set_option maxHeartbeats 1000000 in
theorem doCmp_any (x : GX) (g : Grp) (ra : Option Addr) (rc : Nat) (r : List Cel) (w : World) (h1 : vl.rowAt w x.r g.row) (h2 : vl.rowAt w ra r) (l1 : g.row.length ≤ 9223372036854775807) (l2 : r.length ≤ 9223372036854775807) :
 Calls Tryz.prog 82 #[grpV x g, .slice ra r.length rc] w fun e w' => e = .returned (.int .i64 (cmpRows g.row r)) ∧ Below w.heap.size w w' := by
 have KR : Hid (∀ w1, Below w.heap.size w w1 → Calls Tryz.prog 76 #[.slice x.r g.row.length x.rc, .slice ra r.length rc] w1 fun e w' => e = .returned (.int .i64 (cmpRows g.row r)) ∧ Below w1.heap.size w1 w') := fun w1 hb => rows_any _ _ _ _ _ _ w1 (vl.rowAt_below h1 hb) (vl.rowAt_below h2 hb) l1 l2
 clear h1 h2 l1 l2
 unfold grpV
 obtain ⟨y1, e1⟩ : ∃ z, x.r = z := ⟨_, rfl⟩
 obtain ⟨y2, e2⟩ : ∃ z, g.row.length = z := ⟨_, rfl⟩
 obtain ⟨y3, e3⟩ : ∃ z, x.rc = z := ⟨_, rfl⟩
 obtain ⟨y4, e4⟩ : ∃ z, g.n = z := ⟨_, rfl⟩
 obtain ⟨y5, e5⟩ : ∃ z, x.b = z := ⟨_, rfl⟩
 obtain ⟨y6, e6⟩ : ∃ z, g.bags.length = z := ⟨_, rfl⟩
 obtain ⟨y7, e7⟩ : ∃ z, x.bc = z := ⟨_, rfl⟩
 obtain ⟨y8, e8⟩ : ∃ z, cmpRows g.row r = z := ⟨_, rfl⟩
 obtain ⟨y9, e9⟩ : ∃ z, r.length = z := ⟨_, rfl⟩
 rw [e1, e2, e3, e8, e9] at KR
 rw [e1, e2, e3, e4, e5, e6, e7, e8, e9]
 clear e1 e2 e3 e4 e5 e6 e7 e8 e9
 go_enter Tryz.func82, Tryz.ntmps82
 go_wp2_with (go_at_call 76; refine (KR.out _ (bR.alloc nR _)).mono ?_; rintro e w1 ⟨rfl, hb1⟩)
 go_ret
 exact ⟨rfl, (bR.alloc nR _).trans (hb1.mono (by simp))⟩
set_option maxHeartbeats 1000000 in
theorem findCmp_any (k n : Int) (s : ByteArray) (m tk tn : Int) (ts : ByteArray) (w : World) :
 Calls Tryz.prog 158 #[.agg #[.int .i64 k, .int .i64 n, .string s, .int .i64 m], .agg #[.int .i64 tk, .int .i64 tn, .string ts]] w fun e w' => e = .returned (.int .i64 (cmpC ⟨k, n, s⟩ ⟨tk, tn, ts⟩)) ∧ Below w.heap.size w w' := by
 have KR : Hid (∀ w1, Calls Tryz.prog 124 #[.agg #[.int .i64 k, .int .i64 n, .string s], .agg #[.int .i64 tk, .int .i64 tn, .string ts]] w1 fun e w' => e = .returned (.int .i64 (cmpC ⟨k, n, s⟩ ⟨tk, tn, ts⟩)) ∧ Below w1.heap.size w1 w') := fun w1 => compare_any _ _ _ _ _ _ w1
 obtain ⟨y8, e8⟩ : ∃ z, cmpC ⟨k, n, s⟩ ⟨tk, tn, ts⟩ = z := ⟨_, rfl⟩
 rw [e8] at KR ⊢
 clear e8
 go_enter Tryz.func158, Tryz.ntmps158
 go_wp2_with (go_at_call 124; refine (KR.out _).mono ?_; rintro e w1 ⟨rfl, hb1⟩)
 go_ret
 exact ⟨rfl, ((bR.alloc nR _).alloc (by simp) _).trans (hb1.mono (by simp; omega))⟩
set_option maxHeartbeats 1000000 in
theorem find_any (a : Option Addr) (cap : Nat) (l : List Tal) (c : Cel) (w : World) (hl : l.length < 4611686018427387904) (ha : bagAt w a l) (hm : ∀ i j, i ≤ j → j < l.length → cmpC (l.getD j default).1 c < 0 → cmpC (l.getD i default).1 c < 0) :
 Calls Tryz.prog 128 #[.slice a l.length cap, .agg #[.int .i64 c.k, .int .i64 c.n, .string c.s]] w fun e w' =>
  (∃ i : Nat, i ≤ l.length ∧ e = .returned (.tuple #[.int .i64 i, .bool (decide (i < l.length) && decide (cmpC (l.getD i default).1 c = 0))]) ∧ (∀ t, t < i → cmpC (l.getD t default).1 c < 0) ∧ (∀ t, i ≤ t → t < l.length → 0 ≤ cmpC (l.getD t default).1 c)) ∧ Below w.heap.size w w' := by
 have KS : Hid (∀ w1, Below w.heap.size w w1 → _) := fun w1 hb => searchT_any 158 (enters_of Tryz.func158 (by kernel_rfl) rfl) (fun i => cmpC (l.getD i default).1 c) a cap l c.k c.n c.s w1 hl (bagAt_below ha hb) (fun i w2 _ _ => findCmp_any _ _ _ _ _ _ _ w2) hm
 clear ha hm
 obtain ⟨ck, cn, cs⟩ := c
 dsimp only at KS ⊢
 obtain ⟨F, hF⟩ : ∃ F : Nat → Int, ∀ i, cmpC (l.getD i default).1 ⟨ck, cn, cs⟩ = F i := ⟨_, fun _ => rfl⟩
 simp only [hF] at KS ⊢
 obtain ⟨n, hn⟩ : ∃ z, l.length = z := ⟨_, rfl⟩
 rw [hn] at KS hl ⊢
 clear hF hn
 go_enter Tryz.func128, Tryz.ntmps128
 go_wp2_with (go_at_call 157; refine (KS.out _ (bR.alloc nR _)).mono ?_; rintro e w1 ⟨⟨i, hi, rfl, h1, h2⟩, hb1⟩)
 go_ret2
 exact ⟨⟨i, hi, rfl, h1, h2⟩, (bR.alloc nR _).trans (hb1.mono (by simp))⟩
end Go.Proofs.YtbfbgdinhiglaaaGreat.gr
namespace Go.Proofs.YtbfbgdinhiglaaaGreat.gr
open Go.ChangeShapes Go.WideShapes Go.ChangeAt Go.RowKit
open vl pl bt
set_option linter.unusedVariables false
set_option linter.unusedSimpArgs false
structure GO where
 rv : Value
 row : List Cel
 n : Int
 bv : Value
 bs : List (Value × List Tal)
instance : Inhabited GO := ⟨⟨.slice none 0 0, [], 0, .slice none 0 0, []⟩⟩
def GO.cells (x : GO) : List Value := [x.rv, .int .i64 x.n, x.bv]
def bagO (b : Value × List Tal) : Own1 := ⟨b.1, 82, 4, b.2.length, talCells b.2⟩
def GO.bagsO (x : GO) : Own1 := ⟨x.bv, 61, 1, x.bs.length, x.bs.map (·.1)⟩
def GO.rowO (x : GO) : Own1 := ⟨x.rv, 68, 3, x.row.length, celCells x.row⟩
def GO.all (x : GO) : List Own1 := x.rowO :: x.bagsO :: x.bs.map bagO
def gcells (L : List GO) : List Value := L.flatMap GO.cells
def headO (v : Value) (L : List GO) : Own1 := ⟨v, 53, 3, L.length, gcells L⟩
def OG (w : World) (base : Nat) (v : Value) (L : List GO) : Prop := Est w base (headO v L :: L.flatMap GO.all)
def GO.grp (x : GO) : Grp := ⟨x.row, x.n, x.bs.map (·.2)⟩
def adOf : Value → Option Addr
 | .slice a _ _ => a
 | _ => none
def cpOf : Value → Nat
 | .slice _ _ c => c
 | _ => 0
def GO.gx (x : GO) : GX := ⟨adOf x.rv, cpOf x.rv, adOf x.bv, cpOf x.bv, x.bs.map fun b => (adOf b.1, b.2.length, cpOf b.1)⟩
theorem own_is {w : World} {base : Nat} {e : TypeId} {s : Nat} {v : Value} {n : Nat} {xs : List Value} (h : w.ownsRow base e s v n xs) : v = .slice (adOf v) n (cpOf v) := by
 rcases h.2 with ⟨hv, h0⟩ | ⟨g, cap, cur, hv, _⟩
 ·rw [hv, h0]; rfl
 ·rw [hv]; rfl
theorem gcells_app (A B : List GO) : gcells (A ++ B) = gcells A ++ gcells B := by unfold gcells; rw [List.flatMap_append]
theorem gcells_len : ∀ (L : List GO), (gcells L).length = L.length * 3
 | [] => rfl
 | x :: L => by
  have ih := gcells_len L
  have e : gcells (x :: L) = x.rv :: .int .i64 x.n :: x.bv :: gcells L := rfl
  rw [e]
  simp only [List.length_cons, ih]
  omega
theorem gcells_at : ∀ (L : List GO) (i : Nat), i < L.length → (gcells L)[i * 3]? = some (L.getD i default).rv ∧ (gcells L)[i * 3 + 1]? = some (.int .i64 (L.getD i default).n) ∧ (gcells L)[i * 3 + 2]? = some (L.getD i default).bv
 | [], i, h => absurd h (Nat.not_lt_zero i)
 | x :: L, 0, _ => ⟨rfl, rfl, rfl⟩
 | x :: L, i + 1, h => by
  have ih := gcells_at L i (by simpa using h)
  have e : gcells (x :: L) = x.rv :: .int .i64 x.n :: x.bv :: gcells L := rfl
  rw [e, show (i + 1) * 3 = i * 3 + 1 + 1 + 1 by omega, show i * 3 + 1 + 1 + 1 + 1 = (i * 3 + 1) + 1 + 1 + 1 by omega, show i * 3 + 1 + 1 + 1 + 2 = (i * 3 + 2) + 1 + 1 + 1 by omega]
  simpa using ih
theorem perm_of {E E' : List Own1} (h : ∀ [DecidableEq Own1] (a : Own1), E.count a = E'.count a) : E.Perm E' := by
 haveI : DecidableEq Own1 := fun a b => Classical.propDecidable (a = b)
 exact List.perm_iff_count.2 (fun a => h a)
theorem OG.parts {w : World} {base : Nat} {v : Value} {L : List GO} (h : OG w base v L) {x : GO} (hx : x ∈ L) : ownV w base x.rv x.row ∧ w.ownsRow base 61 1 x.bv x.bs.length (x.bs.map (·.1)) ∧ ∀ b ∈ x.bs, ownT w base b.1 b.2 := by
 have hm : ∀ y ∈ x.all, y.here w base := fun y hy => h.own y (List.mem_cons_of_mem _ (List.mem_flatMap.2 ⟨x, hx, hy⟩))
 exact ⟨hm _ (List.mem_cons_self ..), hm _ (List.mem_cons_of_mem _ (List.mem_cons_self ..)), fun b hb => hm (bagO b) (List.mem_cons_of_mem _ (List.mem_cons_of_mem _ (List.mem_map.2 ⟨b, hb, rfl⟩)))⟩
theorem OG.head {w : World} {base : Nat} {v : Value} {L : List GO} (h : OG w base v L) : w.ownsRow base 53 3 v L.length (gcells L) := h.own _ (List.mem_cons_self ..)
theorem OG.below {w w' : World} {base : Nat} {v : Value} {L : List GO} (h : OG w base v L) (hb : Below w.heap.size w w') : OG w' base v L := Est_below h hb
theorem getD_mapG (L : List GO) (i : Nat) (hi : i < L.length) : (L.map GO.gx).getD i default = (L.getD i default).gx ∧ (L.map GO.grp).getD i default = (L.getD i default).grp := by
 simp [List.getD_eq_getElem?_getD, hi]
theorem OG.at {w : World} {base : Nat} {ad : Option Addr} {cap : Nat} {L : List GO} (h : OG w base (.slice ad L.length cap) L) : gsAt w ad (L.map GO.gx) (L.map GO.grp) := by
 have hh := h.head
 refine ⟨by simp, fun i hi => ?_, fun i hi => ?_⟩
 ·have hi2 : i < L.length := by simpa using hi
  have hm : L.getD i default ∈ L := by rw [List.getD_eq_getElem?_getD, List.getElem?_eq_getElem hi2]; exact List.getElem_mem hi2
  obtain ⟨p1, p2, p3⟩ := h.parts hm
  obtain ⟨e1, e2⟩ := getD_mapG L i hi2
  rw [e1, e2]
  rcases hh.2 with ⟨hv, h0⟩ | ⟨g, cap', cur, hv, h1, hg, h2, h3, h4, h5⟩
  ·omega
  ·cases hv
   obtain ⟨z1, z2, z3⟩ := gcells_at L i hi2
   have c1 := World.ownsRow.cells hh (g := g) rfl _ _ z1
   have c2 := World.ownsRow.cells hh (g := g) rfl _ _ z2
   have c3 := World.ownsRow.cells hh (g := g) rfl _ _ z3
   rw [ch.addr_add] at c1 c2 c3
   refine ⟨g, 0, rfl, ?_, ?_, ?_⟩
   ·rw [c1]; congr 1; exact own_is p1
   ·exact c2
   ·rw [Nat.add_assoc, c3, own_is p2]; simp [GO.grp, GO.gx]
 ·have hi2 : i < L.length := by simpa using hi
  have hm : L.getD i default ∈ L := by rw [List.getD_eq_getElem?_getD, List.getElem?_eq_getElem hi2]; exact List.getElem_mem hi2
  obtain ⟨p1, p2, p3⟩ := h.parts hm
  obtain ⟨e1, e2⟩ := getD_mapG L i hi2
  rw [e1, e2]
  generalize L.getD i default = x at p1 p2 p3
  refine ⟨?_, fun j hj => ?_, by simp [GO.gx, GO.grp], fun j hj => ?_, fun j hj => ?_⟩
  ·have := own_is p1
   rw [this] at p1
   exact vl.ownV_row p1
  ·have hj2 : j < x.bs.length := by simpa [GO.gx] using hj
   have hmb : x.bs[j] ∈ x.bs := List.getElem_mem hj2
   have e := own_is (p3 _ hmb)
   rcases p2.2 with ⟨hv, h0⟩ | ⟨g2, cap2, cur2, hv, h1, hg, h2, h3, h4, h5⟩
   ·omega
   ·have hb : x.bv.ownBlock = some g2 := by rw [hv]; rfl
    have c1 := World.ownsRow.cells p2 hb j x.bs[j].1 (by simp [hj2])
    rw [ch.addr_add] at c1
    refine ⟨g2, 0, by simp [GO.gx, hv, adOf], ?_⟩
    rw [c1, e]
    simp [GO.gx, List.getD_eq_getElem?_getD, hj2, adOf, cpOf]
  ·have hj2 : j < x.bs.length := by simpa [GO.grp] using hj
   simp [GO.gx, GO.grp, List.getD_eq_getElem?_getD, hj2]
  ·have hj2 : j < x.bs.length := by simpa [GO.grp] using hj
   have hmb : x.bs[j] ∈ x.bs := List.getElem_mem hj2
   have ho := p3 _ hmb
   have e := own_is ho
   rw [e] at ho
   have := (ownT_at ho).1
   simpa [GO.gx, GO.grp, List.getD_eq_getElem?_getD, hj2, adOf] using this
theorem set_mid {α : Type} (A B : List α) (x y : α) : (A ++ x :: B).set A.length y = A ++ y :: B := by
 rw [List.set_append_right _ _ nR, Nat.sub_self]; rfl
theorem gcells_set (A B : List GO) (x : GO) (M : Int) : (gcells (A ++ x :: B)).set (A.length * 3 + 1) (.int .i64 M) = gcells (A ++ { x with n := M } :: B) := by
 rw [gcells_app, gcells_app, List.set_append_right _ _ (by rw [gcells_len]; omega), gcells_len, show A.length * 3 + 1 - A.length * 3 = 1 by omega]
 rfl
theorem OG.putN {w : World} {base g cap : Nat} {A B : List GO} {x : GO} (h : OG w base (.slice (some ⟨g, 0, none⟩) (A ++ x :: B).length cap) (A ++ x :: B)) (M : Int) :
 OG (w.setCell ⟨g, A.length * 3 + 1, none⟩ (.int .i64 M)) base (.slice (some ⟨g, 0, none⟩) (A ++ { x with n := M } :: B).length cap) (A ++ { x with n := M } :: B) := by
 have h1 := Est_set (j := A.length * 3 + 1) h (by rw [List.length_append, List.length_cons]; omega) (.int .i64 M)
 rw [gcells_set] at h1
 have e1 : (A ++ x :: B).length = (A ++ { x with n := M } :: B).length := by simp
 have e2 : (A ++ x :: B).flatMap GO.all = (A ++ { x with n := M } :: B).flatMap GO.all := by simp [GO.all, GO.rowO, GO.bagsO]
 unfold OG headO
 rw [← e1, ← e2]
 exact h1
theorem all_perm (v : Value) (A B : List GO) (x : GO) (C D : List (Value × List Tal)) (b : Value × List Tal) (hb : x.bs = C ++ b :: D) (H : Own1) :
 (H :: (A ++ x :: B).flatMap GO.all).Perm (bagO b :: x.bagsO :: H :: (A.flatMap GO.all ++ x.rowO :: (C.map bagO ++ D.map bagO) ++ B.flatMap GO.all)) := by
 refine perm_of (fun a => ?_)
 simp only [List.flatMap_append, List.flatMap_cons, GO.all, hb, List.map_append, List.map_cons, List.count_append, List.count_cons]
 omega
theorem OG.putB {w w2 : World} {base bb nb bc : Nat} {v : Value} {A B : List GO} {x : GO} {C D : List (Value × List Tal)} {b b' : Value × List Tal} (h : OG w base v (A ++ x :: B)) (hb : x.bs = C ++ b :: D) (hbv : x.bv = .slice (some ⟨bb, 0, none⟩) nb bc)
 (hs : w.heap.size ≤ w2.heap.size) (hblk : ∀ k, k < w.heap.size → b.1.ownBlock ≠ some k → w2.heap[k]? = w.heap[k]?) (hx : ownT w2 base b'.1 b'.2) (hat : ∀ g, b'.1.ownBlock = some g → b.1.ownBlock = some g ∨ w.heap.size ≤ g) :
 OG (w2.setCell ⟨bb, C.length, none⟩ b'.1) base v (A ++ { x with bs := C ++ b' :: D } :: B) := by
 have hp := Est_perm h (all_perm v A B x C D b hb (headO v (A ++ x :: B)))
 have h1 := Est_frame (x' := bagO b') hp hs hblk hx hat
 have h2 := Est_perm h1 (List.Perm.swap _ _ _)
 have hbl := (h.parts (x := x) (by simp)).2.1
 have hnb : nb = x.bs.length := by
  have e := own_is hbl
  rw [hbv] at e
  injection e
 unfold GO.bagsO at h2
 rw [hbv] at h2
 subst hnb
 have h3 := Est_set (j := C.length) h2 (by rw [hb]; simp) b'.1
 have e1 : (x.bs.map (·.1)).set C.length b'.1 = (C ++ b' :: D).map (·.1) := by
  rw [hb, List.map_append, List.map_cons, List.map_append, List.map_cons]
  have := set_mid (C.map (·.1)) (D.map (·.1)) b.1 b'.1
  rw [List.length_map] at this
  exact this
 rw [e1] at h3
 refine Est_perm h3 ?_
 refine perm_of (fun a => ?_)
 have e2 : headO v (A ++ { x with bs := C ++ b' :: D } :: B) = headO v (A ++ x :: B) := by
  unfold headO
  rw [gcells_app, gcells_app]
  simp [gcells, GO.cells]
 rw [e2]
 have e3 : (⟨.slice (some ⟨bb, 0, none⟩) x.bs.length bc, 61, 1, x.bs.length, (C ++ b' :: D).map (·.1)⟩ : Own1) = GO.bagsO { x with bs := C ++ b' :: D } := by
  unfold GO.bagsO
  have e4 : x.bs.length = (C ++ b' :: D).length := by rw [hb]; simp
  dsimp only
  rw [hbv, e4]
 rw [e3]
 have e5 : GO.rowO { x with bs := C ++ b' :: D } = x.rowO := rfl
 simp only [List.flatMap_append, List.flatMap_cons, GO.all, List.map_append, List.map_cons, List.count_append, List.count_cons, e5]
 omega
theorem tal_set : ∀ (l : List Tal) (k : Nat) (M : Int), k < l.length → (talCells l).set (k * 4 + 3) (.int .i64 M) = talCells (l.set k ((l.getD k default).1, M))
 | [], k, M, h => absurd h (Nat.not_lt_zero k)
 | t :: l, 0, M, _ => rfl
 | t :: l, k + 1, M, h => by
  have ih := tal_set l k M (by simpa using h)
  have e : ∀ (t : Tal) (l : List Tal), talCells (t :: l) = .int .i64 t.1.k :: .int .i64 t.1.n :: .string t.1.s :: .int .i64 t.2 :: talCells l := fun _ _ => rfl
  rw [e, show (k + 1) * 4 + 3 = (k * 4 + 3) + 1 + 1 + 1 + 1 by omega]
  simp only [sS, ih, List.getD_cons_succ, e]
theorem OG.putT {w : World} {base tb n cap : Nat} {v : Value} {A B : List GO} {x : GO} {C D : List (Value × List Tal)} {l : List Tal} (h : OG w base v (A ++ x :: B)) (hb : x.bs = C ++ (.slice (some ⟨tb, 0, none⟩) n cap, l) :: D) (k : Nat) (hk : k < l.length) (M : Int) :
 OG (w.setCell ⟨tb, k * 4 + 3, none⟩ (.int .i64 M)) base v (A ++ { x with bs := C ++ (.slice (some ⟨tb, 0, none⟩) n cap, l.set k ((l.getD k default).1, M)) :: D } :: B) := by
 have hp := Est_perm h (all_perm v A B x C D _ hb (headO v (A ++ x :: B)))
 have ho := (h.parts (x := x) (by simp)).2.2 (.slice (some ⟨tb, 0, none⟩) n cap, l) (by rw [hb]; simp)
 have hn : n = l.length := by
  have e := own_is ho
  injection e
 subst hn
 have hp2 : Est w base ((⟨.slice (some ⟨tb, 0, none⟩) l.length cap, 82, 4, l.length, talCells l⟩ : Own1) :: x.bagsO :: headO v (A ++ x :: B) :: (A.flatMap GO.all ++ x.rowO :: (C.map bagO ++ D.map bagO) ++ B.flatMap GO.all)) := hp
 have h1 := Est_set (j := k * 4 + 3) hp2 (by omega) (.int .i64 M)
 rw [tal_set l k M hk] at h1
 refine Est_perm h1 ?_
 refine perm_of (fun a => ?_)
 have e2 : headO v (A ++ { x with bs := C ++ (.slice (some ⟨tb, 0, none⟩) l.length cap, l.set k ((l.getD k default).1, M)) :: D } :: B) = headO v (A ++ x :: B) := by
  unfold headO
  rw [gcells_app, gcells_app]
  simp [gcells, GO.cells]
 have e3 : GO.bagsO { x with bs := C ++ (.slice (some ⟨tb, 0, none⟩) l.length cap, l.set k ((l.getD k default).1, M)) :: D } = x.bagsO := by
  unfold GO.bagsO
  dsimp only
  rw [hb]
  simp
 have e5 : GO.rowO { x with bs := C ++ (.slice (some ⟨tb, 0, none⟩) l.length cap, l.set k ((l.getD k default).1, M)) :: D } = x.rowO := rfl
 have e6 : bagO (.slice (some ⟨tb, 0, none⟩) l.length cap, l.set k ((l.getD k default).1, M)) = (⟨.slice (some ⟨tb, 0, none⟩) l.length cap, 82, 4, l.length, talCells (l.set k ((l.getD k default).1, M))⟩ : Own1) := by simp [bagO]
 rw [e2]
 simp only [List.flatMap_append, List.flatMap_cons, GO.all, List.map_append, List.map_cons, List.count_append, List.count_cons, e3, e5, e6]
 omega
def idxT (l : List Tal) (c : Cel) : Nat := (l.takeWhile fun t => decide (cmpC t.1 c < 0)).length
def hasT (l : List Tal) (c : Cel) : Bool := decide (idxT l c < l.length) && decide (cmpC (l.getD (idxT l c) default).1 c = 0)
def addT (l : List Tal) (c : Cel) : List Tal := if hasT l c = true then l.set (idxT l c) ((l.getD (idxT l c) default).1, (l.getD (idxT l c) default).2 + 1) else l.take (idxT l c) ++ (c, 1) :: l.drop (idxT l c)
theorem idx_le (l : List Tal) (c : Cel) : idxT l c ≤ l.length := by
 unfold idxT
 have := List.IsPrefix.length_le (List.takeWhile_prefix (l := l) (fun t => decide (cmpC t.1 c < 0)))
 exact this
theorem idx_is {l : List Tal} {c : Cel} : ∀ {i : Nat}, i ≤ l.length → (∀ t, t < i → cmpC (l.getD t default).1 c < 0) → (∀ t, i ≤ t → t < l.length → 0 ≤ cmpC (l.getD t default).1 c) → i = idxT l c := by
 induction l with
 | nil => intro i h _ _; have h0 : i = 0 := by simpa using h
          rw [h0]; rfl
 | cons a l ih =>
  intro i hi h1 h2
  cases i with
  | zero =>
   have := h2 0 nR (by simp)
   have h3 : ¬ (cmpC a.1 c < 0) := by simpa using this
   unfold idxT
   rw [List.takeWhile_cons]
   simp [h3]
  | succ i =>
   have h0 : cmpC a.1 c < 0 := by simpa using h1 0 (by omega)
   have := ih (i := i) (by simpa using hi) (fun t ht => by simpa using h1 (t + 1) (by omega)) (fun t ht hl => by simpa using h2 (t + 1) (by omega) (by simpa using hl))
   rw [this]
   unfold idxT
   rw [List.takeWhile_cons]
   simp [h0]
theorem find_is (a : Option Addr) (cap : Nat) (l : List Tal) (c : Cel) (w : World) (hl : l.length < 4611686018427387904) (ha : bagAt w a l) (hm : ∀ i j, i ≤ j → j < l.length → cmpC (l.getD j default).1 c < 0 → cmpC (l.getD i default).1 c < 0) :
 Calls Tryz.prog 128 #[.slice a l.length cap, .agg #[.int .i64 c.k, .int .i64 c.n, .string c.s]] w fun e w' => e = .returned (.tuple #[.int .i64 (idxT l c), .bool (hasT l c)]) ∧ Below w.heap.size w w' := by
 refine (find_any a cap l c w hl ha hm).mono ?_
 rintro e w' ⟨⟨i, hi, rfl, h1, h2⟩, hb⟩
 have := idx_is hi h1 h2
 subst this
 exact ⟨rfl, hb⟩
theorem talCells_app2 (A B : List Tal) : talCells (A ++ B) = talCells A ++ talCells B := by unfold talCells; rw [List.flatMap_append]
theorem tal_one : ∀ (l : List Tal), ∀ u ∈ talCells l, u.oneCell' = true := fun l u hu => by
 unfold talCells at hu
 obtain ⟨t, _, ht⟩ := List.mem_flatMap.1 hu
 simp at ht
 rcases ht with rfl | rfl | rfl | rfl <;> rfl
theorem talLen : ∀ (L : List Tal), (talCells L).length = L.length * 4
 | [] => rfl
 | a :: L => by
  have ih := talLen L
  have e1 : talCells (a :: L) = .int .i64 a.1.k :: .int .i64 a.1.n :: .string a.1.s :: .int .i64 a.2 :: talCells L := rfl
  rw [e1]
  simp only [List.length_cons, ih]
  omega
theorem insT_bag (v : Value) (l : List Tal) (c : Cel) (i base X : Nat) (w : World) (ho : ownT w base v l) (hi : i ≤ l.length) (hn : l.length ≤ 1073741824) (hb : base ≤ w.heap.size) (hX : w.heap[X]? = some (.cells #[.int .i64 c.k, .int .i64 c.n, .string c.s, .int .i64 0] 82 (0, 0))) (hne : some X ≠ v.ownBlock) :
 Calls Tryz.prog 132 #[v, .int .i64 i, .slice (some ⟨X, 0, none⟩) 1 1] w fun e w' => ∃ g cap2, e = .returned (.slice (some ⟨g, 0, none⟩) (l.length + 1) cap2) ∧ ownT w' base (.slice (some ⟨g, 0, none⟩) (l.length + 1) cap2) (l.take i ++ (c, 0) :: l.drop i) ∧ w.heap.size ≤ w'.heap.size ∧ (∀ b, b < w.heap.size → v.ownBlock ≠ some b → w'.heap[b]? = w.heap[b]?) ∧ (v.ownBlock = some g ∨ w.heap.size ≤ g) ∧ Below base w w' := by
 have e := own_is ho
 rw [e] at ho hne ⊢
 have h := insT_any (adOf v) l.length (cpOf v) i (talCells (l.take i)) (talCells (l.drop i)) base X c.k c.n c.s 0 w (by rw [← talCells_app2, List.take_append_drop]; exact ho) (by rw [talLen, List.length_take, Nat.min_eq_left hi]) hi hn hb hX hne (tal_one _)
 refine h.mono ?_
 rintro e w' ⟨g, cap2, rfl, h1, h2, h3, h4, h5⟩
 refine ⟨g, cap2, rfl, ?_, h2, h3, h4, h5⟩
 have hl : (l.take i ++ (c, 0) :: l.drop i).length = l.length + 1 := by simp; omega
 unfold ownT
 rw [hl, talCells_app2]
 have e2 : talCells ((c, (0 : Int)) :: l.drop i) = [.int .i64 c.k, .int .i64 c.n, .string c.s, .int .i64 0] ++ talCells (l.drop i) := rfl
 rw [e2, ← List.append_assoc]
 exact h1
end Go.Proofs.YtbfbgdinhiglaaaGreat.gr
