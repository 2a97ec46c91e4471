import Derived.Test.YtbfbgdinhiglaaaGreatMgValA
import Derived.Lib.IndexBytes
import Derived.Lib.SmallJoins
import Derived.Deep.Slices
import Derived.Deep.Strs
import Derived.Test.YtbfbgdinhiglaaaGreatRows
import Derived.WalkKit
import Derived.ProofKit
import Derived.OpenShut
namespace Go.Proofs.YtbfbgdinhiglaaaGreat.vl
set_option linter.unusedVariables false
set_option linter.unusedSimpArgs false
theorem encT_cons (b : UInt8) (x : List UInt8) : encT (b :: x) = (if b = 0 then [0, 255] else [b]) ++ encT x := rfl
theorem encT_split (x t tail rest : List UInt8) (h : encT x ++ tail = encT t ++ 0 :: 1 :: rest) : ∃ t2, t = x ++ t2 ∧ tail = encT t2 ++ 0 :: 1 :: rest := by
 induction x generalizing t with
 | nil => exact ⟨t, rfl, h⟩
 | cons b x ih =>
  rw [encT_cons] at h
  cases t with
  | nil =>
   by_cases hb : b = 0
   ·rw [if_pos hb] at h
    simp [encT] at h
   ·rw [if_neg hb] at h
    simp [encT] at h
    exact absurd h.1 hb
  | cons c t =>
   rw [encT_cons] at h
   by_cases hb : b = 0
   ·rw [if_pos hb] at h
    by_cases hc : c = 0
    ·rw [if_pos hc] at h
     have h' : encT x ++ tail = encT t ++ 0 :: 1 :: rest := by simpa using h
     obtain ⟨t2, e1, e2⟩ := ih t h'
     exact ⟨t2, by rw [hb, hc, e1]; rfl, e2⟩
    ·rw [if_neg hc] at h
     simp at h
     exact absurd h.1.symm hc
   ·rw [if_neg hb] at h
    by_cases hc : c = 0
    ·rw [if_pos hc] at h
     simp at h
     exact absurd h.1 hb
    ·rw [if_neg hc] at h
     simp only [List.cons_append, List.nil_append, List.cons.injEq] at h
     obtain ⟨t2, e1, e2⟩ := ih t h.2
     exact ⟨t2, by rw [h.1, e1]; rfl, e2⟩
def beVal (l : List UInt8) : Nat := l.foldl (fun u b => u * 256 + b.toNat) 0
theorem ofNat_toNat (n : Nat) : (UInt8.ofNat n).toNat = n % 256 := UInt8.toNat_ofNat'
theorem be8_8 (u : Nat) : be8 u 8 = [byteAt u 0, byteAt u 1, byteAt u 2, byteAt u 3, byteAt u 4, byteAt u 5, byteAt u 6, byteAt u 7] := rfl
theorem beVal_be8 (u : Nat) (h : u < 18446744073709551616) : beVal (be8 u 8) = u := by
 rw [be8_8]
 simp only [beVal, List.foldl_cons, List.foldl_nil, byteAt, ofNat_toNat]
 simp only [Nat.reduceMul, Nat.reduceSub, Nat.reducePow, Nat.reduceAdd]
 omega
theorem byte_eq {a b : UInt8} (h : a.toNat = b.toNat) : a = b := UInt8.toNat_inj.1 h
def Cel.wf (c : Cel) : Prop := (-9223372036854775808 ≤ c.n ∧ c.n ≤ 9223372036854775807) ∧ c.s.size ≤ maxLen
theorem size0 {s : ByteArray} (h : s.size = 0) : s = ⟨#[]⟩ := ByteArray.ext (Array.eq_empty_of_size_eq_zero h)
theorem str_eq {s t : ByteArray} (h : s.data.toList = t.data.toList) : s = t := ByteArray.ext (Array.ext' h)
theorem encC_cases {c : Cel} (h : c.ok) :
 (c = ⟨0, 0, ⟨#[]⟩⟩ ∧ encC c = [0]) ∨ (c = ⟨1, 0, ⟨#[]⟩⟩ ∧ encC c = [1, 0]) ∨ (c = ⟨1, 1, ⟨#[]⟩⟩ ∧ encC c = [1, 1]) ∨
 (∃ n, c = ⟨2, n, ⟨#[]⟩⟩ ∧ encC c = 2 :: be8 (n + 9223372036854775808).toNat 8) ∨ (∃ s, c = ⟨3, 0, s⟩ ∧ s.size ≤ 64 ∧ encC c = 3 :: (encT s.data.toList ++ [0, 1])) := by
 obtain ⟨k, n, s⟩ := c
 obtain ⟨hs, hk⟩ := chk_cases h
 dsimp only at hs hk
 rcases hk with ⟨rfl, rfl, h0⟩ | ⟨rfl, rfl, h0⟩ | ⟨rfl, rfl, h0⟩ | ⟨rfl, h0⟩ | ⟨rfl, rfl⟩
 ·rw [size0 h0]; exact .inl ⟨rfl, rfl⟩
 ·rw [size0 h0]; exact .inr (.inl ⟨rfl, rfl⟩)
 ·rw [size0 h0]; exact .inr (.inr (.inl ⟨rfl, rfl⟩))
 ·rw [size0 h0]; exact .inr (.inr (.inr (.inl ⟨n, rfl, rfl⟩)))
 ·exact .inr (.inr (.inr (.inr ⟨s, rfl, hs, rfl⟩)))
theorem encC_ne {c : Cel} (h : c.ok) : encC c ≠ [] := by
 rcases encC_cases h with ⟨_, e⟩ | ⟨_, e⟩ | ⟨_, e⟩ | ⟨n, _, e⟩ | ⟨s, _, _, e⟩ <;> rw [e] <;> simp
theorem append_cancel8 {a b x y : List UInt8} (ha : a.length = b.length) (h : a ++ x = b ++ y) : a = b ∧ x = y := List.append_inj h ha
theorem encC_inj {c d : Cel} {x y : List UInt8} (hc : c.ok) (hd : d.ok) (wc : c.wf) (wd : d.wf) (h : encC c ++ x = encC d ++ y) : c = d ∧ x = y := by
 rcases encC_cases hc with ⟨rfl, e⟩ | ⟨rfl, e⟩ | ⟨rfl, e⟩ | ⟨n, rfl, e⟩ | ⟨s, rfl, hs, e⟩ <;>
 rcases encC_cases hd with ⟨rfl, e'⟩ | ⟨rfl, e'⟩ | ⟨rfl, e'⟩ | ⟨m, rfl, e'⟩ | ⟨t, rfl, ht, e'⟩ <;>
 simp only [e, e', List.cons_append, List.nil_append, List.cons.injEq] at h
 all_goals try (exact ⟨rfl, h.2⟩)
 all_goals try (exact ⟨rfl, h.2.2⟩)
 all_goals try (exact absurd h.1 (by decide))
 all_goals try (exact absurd h.2.1 (by decide))
 ·obtain ⟨h1, h2⟩ := append_cancel8 (by rw [be8_len, be8_len]) h.2
  have := congrArg beVal h1
  obtain ⟨⟨n1, n2⟩, _⟩ := wc
  obtain ⟨⟨m1, m2⟩, _⟩ := wd
  dsimp only at n1 n2 m1 m2
  rw [beVal_be8 _ (by omega), beVal_be8 _ (by omega)] at this
  have e : n = m := by omega
  exact ⟨by rw [e], h2⟩
 ·have h' : encT s.data.toList ++ 0 :: 1 :: x = encT t.data.toList ++ 0 :: 1 :: y := by simpa using h.2
  obtain ⟨t2, e1, e2⟩ := encT_split _ _ _ _ h'
  have : t2 = [] := by
   cases t2 with
   | nil => rfl
   | cons b t2 =>
    rw [encT_cons] at e2
    by_cases hb : b = 0
    ·rw [if_pos hb] at e2; simp at e2
    ·rw [if_neg hb] at e2; simp at e2; exact absurd e2.1.symm hb
  subst this
  rw [List.append_nil] at e1
  have e3 : x = y := by simpa [encT] using e2
  exact ⟨by rw [str_eq e1], e3⟩
end Go.Proofs.YtbfbgdinhiglaaaGreat.vl
namespace Go.Proofs.YtbfbgdinhiglaaaGreat.vl
open Go.ChangeShapes Go.WideShapes Go.ChangeAt Go.RowKit
set_option linter.unusedVariables false
set_option linter.unusedSimpArgs false
end Go.Proofs.YtbfbgdinhiglaaaGreat.vl
namespace Go.Proofs.YtbfbgdinhiglaaaGreat.vl
open Go.ChangeShapes Go.WideShapes Go.ChangeAt Go.RowKit
set_option linter.unusedVariables false
set_option linter.unusedSimpArgs false
theorem fold_bound (l : List UInt8) (a : Nat) : l.foldl (fun u b => u * 256 + b.toNat) a + 1 ≤ (a + 1) * 256 ^ l.length := by
 induction l generalizing a with
 | nil => simp
 | cons b l ih =>
  have hb := b.toNat_lt
  rw [List.foldl_cons, List.length_cons, Nat.pow_succ]
  refine Nat.le_trans (ih _) ?_
  rw [show (a + 1) * (256 ^ l.length * 256) = ((a + 1) * 256) * 256 ^ l.length by rw [Nat.mul_comm (256 ^ l.length), Nat.mul_assoc]]
  exact Nat.mul_le_mul_right _ (by omega)
theorem beVal_bound (l : List UInt8) : beVal l < 256 ^ l.length := by
 have := fold_bound l 0
 rw [Nat.zero_add, Nat.one_mul] at this
 exact this
end Go.Proofs.YtbfbgdinhiglaaaGreat.vl
namespace Go.Proofs.YtbfbgdinhiglaaaGreat.vl
open Go.ChangeShapes Go.WideShapes Go.ChangeAt Go.RowKit
set_option linter.unusedVariables false
set_option linter.unusedSimpArgs false
attribute [local go_sem ↓] Go.wp_at_zero Go.wp_at_succ
end Go.Proofs.YtbfbgdinhiglaaaGreat.vl
namespace Go.Proofs.YtbfbgdinhiglaaaGreat.vl
open Go.ChangeShapes Go.WideShapes Go.ChangeAt Go.RowKit
set_option linter.unusedVariables false
set_option linter.unusedSimpArgs false
theorem Tryz.infoV : (Tryz.prog.info? 68).map (fun i => (i.zero, i.size, i.bytes)) = some (some (.agg #[.int .i64 0, .int .i64 0, .string ⟨#[]⟩]), 3, 32) := by kernel_rfl
def celCells (r : List Cel) : List Value := r.flatMap fun c => [.int .i64 c.k, .int .i64 c.n, .string c.s]
theorem celCells_len (r : List Cel) : (celCells r).length = r.length * 3 := by
 induction r with
 | nil => rfl
 | cons c r ih => show ([_, _, _] ++ celCells r).length = _; rw [List.length_append, ih, List.length_cons]; simp; omega
theorem celCells_snoc (r : List Cel) (c : Cel) : celCells (r ++ [c]) = celCells r ++ [.int .i64 c.k, .int .i64 c.n, .string c.s] := by
 unfold celCells; rw [List.flatMap_append]; simp
theorem celCells_at (r : List Cel) (i : Nat) (h : i < r.length) : (celCells r)[i * 3]? = some (.int .i64 (r.getD i default).k) ∧ (celCells r)[i * 3 + 1]? = some (.int .i64 (r.getD i default).n) ∧ (celCells r)[i * 3 + 2]? = some (.string (r.getD i default).s) := by
 induction r generalizing i with
 | nil => exact absurd h (Nat.not_lt_zero i)
 | cons c r ih =>
  have e : celCells (c :: r) = .int .i64 c.k :: .int .i64 c.n :: .string c.s :: celCells r := rfl
  rw [e]
  cases i with
  | zero => exact ⟨rfl, rfl, rfl⟩
  | succ i =>
   have := ih i (by simpa using h)
   rw [show (i + 1) * 3 = i * 3 + 1 + 1 + 1 by omega]
   simpa using this
def ownV (w : World) (base : Nat) (v : Value) (r : List Cel) : Prop := w.ownsRow base 68 3 v r.length (celCells r)
theorem ownV_below {w w' : World} {base : Nat} {v : Value} {r : List Cel} (h : ownV w base v r) (hb : Below w.heap.size w w') : ownV w' base v r := by
 refine ⟨h.1, ?_⟩
 rcases h.2 with h0 | ⟨g, cap, cur, hv, h1, hg, h2⟩
 ·exact .inl h0
 ·have hlt : g < w.heap.size := by
   rcases Nat.lt_or_ge g w.heap.size with hlt | hge
   ·exact hlt
   ·rw [Array.getElem?_eq_none hge] at hg; cases hg
  exact .inr ⟨g, cap, cur, hv, h1, by rw [hb.block g hlt]; exact hg, h2⟩
theorem ownV_form {w : World} {base : Nat} {v : Value} {r : List Cel} (h : ownV w base v r) : ∃ ad cap, v = .slice ad r.length cap := by
 rcases h.2 with ⟨rfl, h0⟩ | ⟨g, cap, cur, rfl, _⟩
 ·exact ⟨none, 0, by rw [h0]⟩
 ·exact ⟨_, _, rfl⟩
theorem ownV_row {w : World} {base : Nat} {ad : Option Addr} {cap : Nat} {r : List Cel} (h : ownV w base (.slice ad r.length cap) r) : rowAt w ad r := by
 intro i hi
 rcases h.2 with ⟨hv, h0⟩ | ⟨g, cap', cur, hv, h1, hg, h2⟩
 ·omega
 ·cases hv
  have hc := World.ownsRow.cells h (g := g) rfl
  obtain ⟨x1, x2, x3⟩ := celCells_at r i hi
  have hadd : ∀ j, ((⟨g, 0, none⟩ : Addr).add j) = ⟨g, 0 + j, none⟩ := fun j => by unfold Addr.add; split <;> simp_all
  refine ⟨g, 0, rfl, ?_, ?_, ?_⟩
  ·have := hc _ _ x1; rw [hadd] at this; exact this
  ·have := hc _ _ x2; rw [hadd] at this; exact this
  ·have := hc _ _ x3; rw [hadd] at this; exact this
theorem cell_three_new (w : World) (a b c : Value) (t : TypeId) : ∀ j u, [a, b, c][j]? = some u → (w.alloc (.cells #[a, b, c] t)).cell? ((⟨w.heap.size, 0, none⟩ : Addr).add j) = some u := by
 intro j u hj
 match j, hj with
 | 0, hj => simp at hj; subst hj; simp [Addr.add]
 | 1, hj => simp at hj; subst hj; simp [Addr.add]
 | 2, hj => simp at hj; subst hj; simp [Addr.add]
theorem append_cell {ops : Array Oper} {rest : List Oper} {o : Oper} {a : Act} {Q : Exit → Act → World → Prop} (hgd : o.guard = none) (s x : Operand)
 (ho : o.op = .call { callee := .builtin .append, args := #[s, x], argTypes := #[50, 50] }) (base : Nat) (v : Value) (r : List Cel) (hs : a.eval s = v) (w0 : World)
 (hown : ownV w0 base v r) (c : Cel) (B : Nat) (hB : w0.heap.size = B) (hx : a.eval x = .slice (some ⟨B, 0, none⟩) 1 1) (hl : r.length ≤ 1000000) (hb : base ≤ w0.heap.size)
 (h : ∀ v' w', ownV w' base v' (r ++ [c]) → (w0.alloc (.cells #[.int .i64 c.k, .int .i64 c.n, .string c.s] 68)).grownBy w' v.ownBlock → wpList Tryz.prog ops Q rest (a.put o.dst v') w') :
 wpList Tryz.prog ops Q (o :: rest) a (w0.alloc (.cells #[.int .i64 c.k, .int .i64 c.n, .string c.s] 68)) := by
 subst hB
 obtain ⟨i0, hi, hz0, hz1, hz2⟩ := info_parts Tryz.infoV
 refine wpList_append_own _ hgd s x 50 ho base 68 i0 (.agg #[.int .i64 0, .int .i64 0, .string ⟨#[]⟩]) 3 32 Tryz.underlying50 hi hz0 hz1 hz2 rfl (by decide) v r.length (celCells r) hs
  (World.ownsRow.alloc hown _) ⟨w0.heap.size, 0, none⟩ 1 1 [.int .i64 c.k, .int .i64 c.n, .string c.s] hx rfl (cell_three_new _ _ _ _ _) (by intro u hu; simp at hu; rcases hu with rfl | rfl | rfl <;> rfl) (by unfold maxLen; omega) (by omega) (by simp; omega) ?_
 intro v' w' h1 h2 _
 refine h v' w' ?_ h2
 unfold ownV
 rw [List.length_append, celCells_snoc]
 exact h1
theorem below_appendV {base : Nat} {w w0 w' : World} {v : Value} {r : List Cel} {o : Obj} (hb : Below base w w0) (h0 : base ≤ w0.heap.size) (hown : ownV w0 base v r) (hg : (w0.alloc o).grownBy w' v.ownBlock) : Below base w w' :=
 (hb.alloc h0 o).grown hg (by simp; omega) (fun k hk => (World.ownsRow.lt hown k hk).1)
theorem encR_split (x r : List Cel) (tail : List UInt8) (hx : ∀ c ∈ x, c.ok ∧ c.wf) (hr : ∀ c ∈ r, c.ok ∧ c.wf) (h : encR x ++ tail = encR r) : ∃ r2, r = x ++ r2 ∧ tail = encR r2 := by
 induction x generalizing r with
 | nil => exact ⟨r, rfl, h⟩
 | cons c x ih =>
  have e : encR (c :: x) = encC c ++ encR x := rfl
  rw [e, List.append_assoc] at h
  have hc := hx c (List.mem_cons_self ..)
  cases r with
  | nil =>
   have := encC_ne hc.1
   simp [encR] at h
   exact absurd h.1 this
  | cons d r =>
   have e2 : encR (d :: r) = encC d ++ encR r := rfl
   rw [e2] at h
   have hd := hr d (List.mem_cons_self ..)
   obtain ⟨rfl, h2⟩ := encC_inj hc.1 hd.1 hc.2 hd.2 h
   obtain ⟨r2, e3, e4⟩ := ih r (fun y hy => hx y (List.mem_cons_of_mem _ hy)) (fun y hy => hr y (List.mem_cons_of_mem _ hy)) h2
   exact ⟨r2, by rw [e3]; rfl, e4⟩
def rowOk (r : List Cel) : Prop := r.length ≤ 8 ∧ ∀ c ∈ r, c.ok ∧ c.wf
end Go.Proofs.YtbfbgdinhiglaaaGreat.vl
namespace Go.Proofs.YtbfbgdinhiglaaaGreat.vl
open Go.ChangeShapes Go.WideShapes Go.ChangeAt Go.RowKit
set_option linter.unusedVariables false
set_option linter.unusedSimpArgs false
end Go.Proofs.YtbfbgdinhiglaaaGreat.vl
namespace Go.Proofs.YtbfbgdinhiglaaaGreat.vl
open Go.ChangeShapes Go.WideShapes Go.ChangeAt Go.RowKit
set_option linter.unusedVariables false
set_option linter.unusedSimpArgs false
theorem errR_ok {r : List Cel} (h : ∀ c ∈ r, c.ok ∧ c.wf) : errR r = 0 := by
 induction r with
 | nil => rfl
 | cons c r ih =>
  have hc : chk c.k c.n c.s = 0 := (h c (List.mem_cons_self ..)).1
  rw [errR, if_pos hc]
  exact ih (fun x hx => h x (List.mem_cons_of_mem _ hx))
theorem keyErr_ok {r : List Cel} (h : rowOk r) : keyErr r = 0 := by
 unfold keyErr
 have := h.1
 rw [if_neg (by omega)]
 exact errR_ok h.2
theorem keyS_ok {r : List Cel} (h : rowOk r) : (keyS r).data.toList = encR r := by
 unfold keyS; rw [if_pos (keyErr_ok h)]
theorem rowAt_below {w w' : World} {a : Option Addr} {r : List Cel} (h : rowAt w a r) (hb : Below w.heap.size w w') : rowAt w' a r := by
 intro i hi
 obtain ⟨b, o, e, x1, x2, x3⟩ := h i hi
 exact ⟨b, o, e, cL hb x1, cL hb x2, cL hb x3⟩
end Go.Proofs.YtbfbgdinhiglaaaGreat.vl
namespace Go.Proofs.YtbfbgdinhiglaaaGreat.vl
open Go.ChangeShapes Go.WideShapes Go.ChangeAt Go.RowKit Go.Joins Go.Deep
set_option linter.unusedVariables false
set_option linter.unusedSimpArgs false
theorem laidOut : laidOutB Tryz.prog = true := by kernel_rfl
theorem own : ownKnob Tryz.prog.godebug = none := by kernel_rfl
theorem cellsInt : Tryz.prog.cellsOf 3 = 1 := by kernel_rfl
theorem cellsStr : Tryz.prog.cellsOf 9 = 1 := by kernel_rfl
theorem cellsV : Tryz.prog.cellsOf 68 = 3 := by kernel_rfl
section
variable {H : Type} {enc : TypeId × Value → H} {w : World} {base : Nat} {spare : Nat → Bool} {held : Bool}
set_option maxRecDepth 100000 in
theorem open_cel {x : Addr} {cs : List Value} {y : DataW H × List MemPlace} {fuel : Nat} (hc : w.cells? base x 3 = some cs) (ht : DataW.trod enc Tryz.prog w base spare held fuel 68 cs = some y) :
 ∃ (b off : Nat) (c : Cel), x = ⟨b, off, none⟩ ∧ w.cell? ⟨b, off, none⟩ = some (.int .i64 c.k) ∧ w.cell? ⟨b, off + 1, none⟩ = some (.int .i64 c.n) ∧ w.cell? ⟨b, off + 1 + 1, none⟩ = some (.string c.s) ∧ c.wf := by
 obtain ⟨_, hlen, hat⟩ := World.cells?_some hc
 obtain ⟨y0, y1, y2, n, _, _, h0, h1, h2⟩ := trod_struct3 Tryz.underlying68 ht
 match cs, hlen with
 | [a0, a1, a2], _ =>
  obtain ⟨k, e0, _, wk⟩ := DataW.trod_int Tryz.underlying3 h0
  obtain ⟨m, e1, _, wm⟩ := DataW.trod_int Tryz.underlying3 h1
  obtain ⟨s, e2, _, hs⟩ := DataW.trod_string Tryz.underlying9 h2
  simp [cellsInt] at e0
  simp [cellsInt] at e1
  simp [cellsStr] at e2
  subst e0 e1 e2
  obtain ⟨b, off, spot⟩ := x
  have g0 := hat 0 (by omega)
  have g1 := hat 1 (by omega)
  have g2 := hat 2 (by omega)
  have hspot : spot = none := by simpa [Addr.add] using World.cell?_spot g0
  subst hspot
  refine ⟨b, off, ⟨k, m, s⟩, rfl, ?_, ?_, ?_, bounds_i64 wm, hs⟩
  ·simpa [Addr.add] using g0
  ·simpa [Addr.add] using g1
  ·simpa [Addr.add] using g2
theorem open_row {a : Option Addr} {len cap : Nat} {d : DataW H} {p : List MemPlace} (h : DataW.Trod enc Tryz.prog w base spare held 50 (.slice a len cap) d p) :
 ∃ r : List Cel, r.length = len ∧ rowAt w a r ∧ wfRow r ∧ len ≤ 9223372036854775807 := by
 obtain ⟨fuel, hf⟩ := h
 rcases open_slice Tryz.underlying50 hf with ⟨hcs, _⟩ | ⟨x, l, c, m, n, D, Pl, hcs, _, hl, hm, hmm, _, hel⟩
 ·simp [Value.cells] at hcs
  obtain ⟨rfl, rfl, rfl⟩ := hcs
  exact ⟨[], rfl, fun i hi => absurd hi (Nat.not_lt_zero i), (fun c hc => by cases hc), by omega⟩
 ·simp [Value.cells] at hcs
  obtain ⟨rfl, rfl, rfl⟩ := hcs
  have hle : len ≤ m := by rw [hmm]; split <;> omega
  rw [cellsV] at hel
  obtain ⟨f, hfam⟩ := choose_lt (α := Cel) (n := len) (p := fun i c => ∃ b off, x = ⟨b, off, none⟩ ∧ w.cell? ⟨b, off + i * 3, none⟩ = some (.int .i64 c.k) ∧ w.cell? ⟨b, off + i * 3 + 1, none⟩ = some (.int .i64 c.n) ∧ w.cell? ⟨b, off + i * 3 + 1 + 1, none⟩ = some (.string c.s) ∧ c.wf) (fun i hi => by
   obtain ⟨cs', h1, h2⟩ := hel i (by omega)
   obtain ⟨b, off, c, e, g0, g1, g2, hw⟩ := open_cel h1 h2
   -- the slice begins where its first element does
   obtain ⟨cs0, z1, z2⟩ := hel 0 (by omega)
   obtain ⟨b0, off0, c0, e0, _⟩ := open_cel z1 z2
   have ex : x = ⟨b0, off0, none⟩ := by simpa [Addr.add] using e0
   subst ex
   have ea : (⟨b0, off0, none⟩ : Addr).add (i * 3) = ⟨b0, off0 + i * 3, none⟩ := by unfold Addr.add; split <;> simp_all
   rw [ea] at e
   cases e
   exact ⟨c, b, off0, rfl, g0, g1, g2, hw⟩)
  refine ⟨(List.range len).map f, by simp, ?_, ?_, by unfold maxLen at hm; omega⟩
  ·intro i hi
   have hi' : i < len := by simpa using hi
   obtain ⟨b, off, rfl, g0, g1, g2, _⟩ := hfam i hi'
   have e : ((List.range len).map f).getD i default = f i := by simp [List.getD_eq_getElem?_getD, hi']
   rw [e]
   exact ⟨b, off, rfl, g0, g1, g2⟩
  ·intro c hc
   obtain ⟨i, hi, rfl⟩ := List.mem_map.1 hc
   obtain ⟨_, _, _, _, _, _, hw⟩ := hfam i (by simpa using hi)
   exact hw
end
end Go.Proofs.YtbfbgdinhiglaaaGreat.vl
namespace Go.Proofs.YtbfbgdinhiglaaaGreat.tm
open Go.ChangeShapes Go.WideShapes Go.ChangeAt Go.RowKit
set_option linter.unusedVariables false
def fitB (t : Int) : Bool := decide (-1099511627776 ≤ t ∧ t ≤ 1099511627776)
theorem fit_iff (t : Int) : fitB t = true ↔ (-1099511627776 ≤ t ∧ t ≤ 1099511627776) := by simp [fitB]
theorem fit_no (t : Int) : fitB t = false ↔ ¬ (-1099511627776 ≤ t ∧ t ≤ 1099511627776) := by
 unfold fitB; exact decide_eq_false_iff_not
theorem fits_any (t : Int) (w : World) :
 Calls Tryz.prog 147 #[.int .i64 t] w fun e w' => e = .returned (.bool (fitB t)) ∧ w' = w := by
 by_cases h1 : -1099511627776 ≤ t
 ·by_cases h2 : t ≤ 1099511627776
  ·have hf : fitB t = true := (fit_iff t).2 ⟨h1, h2⟩
   rw [hf]
   go_enter Tryz.func147, Tryz.ntmps147
   go_wp2
   go_ret
   exact ⟨rfl, rfl⟩
  ·have hf : fitB t = false := (fit_no t).2 (by omega)
   rw [hf]
   go_enter Tryz.func147, Tryz.ntmps147
   go_wp2
   go_ret
   exact ⟨rfl, rfl⟩
 ·have hf : fitB t = false := (fit_no t).2 (by omega)
  rw [hf]
  go_enter Tryz.func147, Tryz.ntmps147
  go_wp2
  go_ret
  exact ⟨rfl, rfl⟩
theorem rfits_any (t : Int) (w : World) :
 Calls Tryz.prog 107 #[.int .i64 t] w fun e w' => e = .returned (.bool (fitB t)) ∧ w' = w := by
 by_cases h1 : -1099511627776 ≤ t
 ·by_cases h2 : t ≤ 1099511627776
  ·have hf : fitB t = true := (fit_iff t).2 ⟨h1, h2⟩
   rw [hf]
   go_enter Tryz.func107, Tryz.ntmps107
   go_wp2
   go_ret
   exact ⟨rfl, rfl⟩
  ·have hf : fitB t = false := (fit_no t).2 (by omega)
   rw [hf]
   go_enter Tryz.func107, Tryz.ntmps107
   go_wp2
   go_ret
   exact ⟨rfl, rfl⟩
 ·have hf : fitB t = false := (fit_no t).2 (by omega)
  rw [hf]
  go_enter Tryz.func107, Tryz.ntmps107
  go_wp2
  go_ret
  exact ⟨rfl, rfl⟩
end Go.Proofs.YtbfbgdinhiglaaaGreat.tm
namespace Go.Proofs.YtbfbgdinhiglaaaGreat.tm
open Go.ChangeShapes Go.WideShapes Go.ChangeAt Go.RowKit
set_option linter.unusedVariables false
end Go.Proofs.YtbfbgdinhiglaaaGreat.tm
namespace Go.Proofs.YtbfbgdinhiglaaaGreat.tm
open Go.ChangeShapes Go.WideShapes Go.ChangeAt Go.RowKit
set_option linter.unusedVariables false
end Go.Proofs.YtbfbgdinhiglaaaGreat.tm
