/- turned: a disk of one's own, of what becomes of each slot. -/
import Derived.Test.YtdjlnloalpfmoaaDskBase
namespace Go.Proofs.Ytdjlnloalpfmoaa.dk
open Go.ChangeShapes Go.WideShapes Go.ChangeAt Go.RowKit
set_option linter.unusedVariables false
set_option linter.unusedSimpArgs false
/-- the cells of slots -/
def sltCells (r : List Slt) : List Value := r.flatMap fun c => [.string c.safe, .string c.wait, .bool c.has]
theorem sltCells_len (r : List Slt) : (sltCells r).length = r.length * 3 := by
  induction r with
  | nil => rfl
  | cons c r ih => show ([_, _, _] ++ sltCells r).length = _; rw [List.length_append, ih, List.length_cons]; simp; omega
theorem sltCells_snoc (r : List Slt) (c : Slt) : sltCells (r ++ [c]) = sltCells r ++ [.string c.safe, .string c.wait, .bool c.has] := by
  unfold sltCells; rw [List.flatMap_append]; simp
theorem sltCells_at (r : List Slt) (i : Nat) (h : i < r.length) : (sltCells r)[i * 3]? = some (.string (r.getD i default).safe) ∧ (sltCells r)[i * 3 + 1]? = some (.string (r.getD i default).wait) ∧ (sltCells r)[i * 3 + 1 + 1]? = some (.bool (r.getD i default).has) := by
  induction r generalizing i with
  | nil => exact absurd h (Nat.not_lt_zero i)
  | cons c r ih =>
    have e : sltCells (c :: r) = [.string c.safe, .string c.wait, .bool c.has] ++ sltCells r := rfl
    rw [e]
    cases i with
    | zero => simp
    | succ i =>
      have := ih i (by simpa using h)
      rw [show (i + 1) * 3 = i * 3 + 1 + 1 + 1 by omega]
      simpa using this
/-- v is a slice of one's own that has these slots -/
def ownS (w : World) (base : Nat) (v : Value) (r : List Slt) : Prop := w.ownsRow base 47 3 v r.length (sltCells r)
theorem own_form {w : World} {base : Nat} {e : TypeId} {size : Nat} {v : Value} {n : Nat} {xs : List Value} (h : w.ownsRow base e size v n xs) : ∃ ad cap, v = .slice ad n cap ∧ (0 < n → ∃ g, ad = some ⟨g, 0, none⟩) := by
  rcases h.2 with ⟨rfl, h0⟩ | ⟨g, cap, cur, rfl, _⟩
  · exact ⟨none, 0, by rw [h0], fun h => absurd h0 (by omega)⟩
  · exact ⟨_, _, rfl, fun _ => ⟨g, rfl⟩⟩
theorem own_stay {w w' : World} {base : Nat} {e : TypeId} {size : Nat} {v : Value} {n : Nat} {xs : List Value} (h : w.ownsRow base e size v n xs) (hb : Below w.heap.size w w') : w'.ownsRow base e size v n xs := by
  refine ⟨h.1, ?_⟩
  rcases h.2 with h0 | ⟨g, cap, cur, hv, h1, hg, h2⟩
  · exact .inl h0
  · have hlt : g < w.heap.size := by
      rcases Nat.lt_or_ge g w.heap.size with hlt | hge
      · exact hlt
      · rw [Array.getElem?_eq_none hge] at hg; cases hg
    exact .inr ⟨g, cap, cur, hv, h1, by rw [hb.block g hlt]; exact hg, h2⟩
theorem add_off (b off j : Nat) : (⟨b, off, none⟩ : Addr).add j = ⟨b, off + j, none⟩ := by unfold Addr.add; split <;> simp_all
theorem ownS_at {w : World} {base : Nat} {ad : Option Addr} {n cap : Nat} {r : List Slt} (h : ownS w base (.slice ad n cap) r) : slotsAt w ad r ∧ n = r.length := by
  obtain ⟨ad', cap', hv, hg⟩ := own_form h
  injection hv with ha hn hc
  subst ha hc
  refine ⟨fun i hi => ?_, hn⟩
  obtain ⟨g, rfl⟩ := hg (by omega)
  have hc := World.ownsRow.cells h (g := g) rfl
  obtain ⟨x1, x2, x3⟩ := sltCells_at r i hi
  refine ⟨g, 0, rfl, ?_, ?_, ?_⟩
  · have := hc _ _ x1; rw [add_off] at this; exact this
  · have := hc _ _ x2; rw [add_off] at this; exact this
  · have := hc _ _ x3; rw [add_off] at this; exact this
theorem infoS : (Try.prog.info? 47).map (fun i => (i.zero, i.size, i.bytes)) = some (some (.agg #[.string ⟨#[]⟩, .string ⟨#[]⟩, .bool false]), 3, 40) := by kernel_rfl
theorem cell_three_new (w : World) (a b c : Value) (t : TypeId) : ∀ j u, [a, b, c][j]? = some u → (w.alloc (.cells #[a, b, c] t)).cell? ((⟨w.heap.size, 0, none⟩ : Addr).add j) = some u := by
  intro j u hj
  match j, hj with
  | 0, hj => simp at hj; subst hj; simp [Addr.add]
  | 1, hj => simp at hj; subst hj; simp [Addr.add]
  | 2, hj => simp at hj; subst hj; simp [Addr.add]
/-- 'append(slots, s)' -/
theorem append_slot {ops : Array Oper} {rest : List Oper} {o : Oper} {a : Act} {Q : Exit → Act → World → Prop} (hgd : o.guard = none) (s x : Operand)
    (ho : o.op = .call { callee := .builtin .append, args := #[s, x], argTypes := #[22, 22] }) (base : Nat) (v : Value) (r : List Slt) (hs : a.eval s = v) (w0 : World)
    (hown : ownS w0 base v r) (s1 s2 : ByteArray) (hs3 : Bool) (B : Nat) (hB : w0.heap.size = B) (hx : a.eval x = .slice (some ⟨B, 0, none⟩) 1 1) (hl : r.length ≤ 1000000) (hb : base ≤ w0.heap.size)
    (h : ∀ v' w', ownS w' base v' (r ++ [⟨s1, s2, hs3⟩]) → (w0.alloc (.cells #[.string s1, .string s2, .bool hs3] 47)).grownBy w' v.ownBlock → wpList Try.prog ops Q rest (a.put o.dst v') w') :
    wpList Try.prog ops Q (o :: rest) a (w0.alloc (.cells #[.string s1, .string s2, .bool hs3] 47)) := by
  subst hB
  obtain ⟨i0, hi, hz0, hz1, hz2⟩ := info_parts infoS
  refine wpList_append_own _ hgd s x 22 ho base 47 i0 (.agg #[.string ⟨#[]⟩, .string ⟨#[]⟩, .bool false]) 3 40 Try.underlying22 hi hz0 hz1 hz2 rfl (by decide) v r.length (sltCells r) hs
    (World.ownsRow.alloc hown _) ⟨w0.heap.size, 0, none⟩ 1 1 [.string s1, .string s2, .bool hs3] hx rfl (cell_three_new _ _ _ _ _) (by intro u hu; simp at hu; rcases hu with rfl | rfl | rfl <;> rfl) (by unfold maxLen; omega) (by omega) (by simp; omega) ?_
  intro v' w' h1 h2 _
  refine h v' w' ?_ h2
  unfold ownS
  rw [List.length_append, sltCells_snoc]
  exact h1
theorem below_appendS {base : Nat} {w w0 w' : World} {v : Value} {r : List Slt} {o : Obj} (hb : Below base w w0) (h0 : base ≤ w0.heap.size) (hown : ownS w0 base v r) (hg : (w0.alloc o).grownBy w' v.ownBlock) : Below base w w' :=
  (hb.alloc h0 o).grown hg (by simp; omega) (fun k hk => (World.ownsRow.lt hown k hk).1)
theorem ofs_succ (f : Nat → Slt) (k : Nat) : (List.range (k + 1)).map f = (List.range k).map f ++ [f k] := by
  rw [List.range_succ, List.map_append]; rfl
set_option maxHeartbeats 2000000 in
theorem turned_any (fn : FuncId) (eg : ∀ args w, (callFunc fn args).run Try.prog w = .ok (.enter fn args) w) (caps : Array Value) (f : Nat → Slt) (a : Option Addr) (cap : Nat) (l : List Slt) (w : World) (hl : l.length ≤ 8) (ha : slotsAt w a l)
    (H : ∀ i w1, i < l.length → Below w.heap.size w w1 → Calls Try.prog fn (#[.int .i64 (i : Nat), (l.getD i default).val] ++ caps) w1 fun e w' => e = .returned (f i).val ∧ Below w1.heap.size w1 w') :
    Calls Try.prog 22 #[diskV a l.length cap, .func (.func fn) #[] caps] w fun e w' => (∃ ad cp, e = .returned (diskV ad l.length cp) ∧ ownS w' w.heap.size (.slice ad l.length cp) ((List.range l.length).map f)) ∧ Below w.heap.size w w' := by
  have HH : Hid (∀ i w1, i < l.length → Below w.heap.size w w1 → Calls Try.prog fn (#[.int .i64 (i : Nat), (l.getD i default).val] ++ caps) w1 fun e w' => e = .returned (f i).val ∧ Below w1.heap.size w1 w') := H
  clear H
  obtain ⟨i0, hi, hz0, hz1, hz2⟩ := info_parts infoS
  have HI : Hid (Try.prog.info? 47 = some i0 ∧ i0.zero = some (.agg #[.string ⟨#[]⟩, .string ⟨#[]⟩, .bool false]) ∧ i0.size = 3 ∧ i0.bytes = 40) := ⟨hi, hz0, hz1, hz2⟩
  clear hi hz0 hz1 hz2
  unfold diskV
  obtain ⟨n, hn⟩ : ∃ n, l.length = n := ⟨_, rfl⟩
  have HN : Hid (l.length = n) := hn
  rw [hn] at hl ⊢
  clear hn
  go_enter Try.func22, Try.ntmps22
  go_wp2_with (at_make; refine wpList_make_own _ rfl _ _ 22 rfl (w.heap.size + 2) 47 i0 (.agg #[.string ⟨#[]⟩, .string ⟨#[]⟩, .bool false]) 3 Try.underlying22 HI.out.1 HI.out.2.1 HI.out.2.2.1 .i64 .i64 _ n rfl rfl rfl (by rw [HI.out.2.2.2]; omega) (by unfold maxLen; omega) (by simp) ?_; intro wm hown hgrow; have hbm : Below (w.heap.size + 2) ((w.alloc (.cells #[.slice a n cap] 24)).alloc (.cells #[.slice none 0 0] 24)) wm := (Below.refl _ _).grown hgrow (by simp) (fun k hk => by cases hk); have y0 : wm.cell? ⟨w.heap.size, 0, none⟩ = some (.slice a n cap) := (by rw [hbm.cell (p := ⟨w.heap.size, 0, none⟩) (by simp)]; go_simp))
  have hs0 : ((w.alloc (.cells #[.slice a n cap] 24)).alloc (.cells #[.slice none 0 0] 24)).heap.size = w.heap.size + 2 := by simp
  have hb0 : Below w.heap.size w ((w.alloc (.cells #[.slice a n cap] 24)).alloc (.cells #[.slice none 0 0] 24)) := ((Below.refl _ _).alloc (Nat.le_refl _) _).alloc (by simp) _
  have z1 : ((w.alloc (.cells #[.slice a n cap] 24)).alloc (.cells #[.slice none 0 0] 24)).cell? ⟨w.heap.size + 1, 0, none⟩ = some (.slice none 0 0) := by go_simp
  have f1 : ((w.alloc (.cells #[.slice a n cap] 24)).alloc (.cells #[.slice none 0 0] 24)).frozen? ⟨w.heap.size + 1, 0, none⟩ = false := by go_simp
  generalize (w.alloc (.cells #[.slice a n cap] 24)).alloc (.cells #[.slice none 0 0] 24) = w0 at *
  have HO : Hid (ownS wm (w.heap.size + 2) (.slice (some ⟨w0.heap.size, 0, none⟩) 0 n) []) := hown
  clear hown hgrow
  go_loopw [5, 15] (fun v i wr => ∃ k : Nat, k ≤ n ∧ i = .int .i64 k ∧ Below (w.heap.size + 2) w0 wr ∧ ownS wr (w.heap.size + 2) v ((List.range k).map f)) (fun _ i _ => n - (intOf i).toNat)
  case atStart => exact ⟨0, Nat.zero_le _, rfl, hbm, by have h := HO.out; rw [hs0] at h; exact h⟩
  case round =>
    obtain ⟨k, hk, rfl, hnx, hown⟩ := hrel
    have HOW : Hid (ownS wr (w.heap.size + 2) u5 ((List.range k).map f)) := hown
    clear hown HO hbm y0
    have hnw : Below w.heap.size w wr := hb0.trans (hnx.mono (by omega))
    have hsz := hnx.size
    by_cases hlt : k < n
    · obtain ⟨b, o, e, x1, x2, x3⟩ := ha k (by rw [HN.out]; exact hlt)
      subst e
      have q1 := cell_later hnw x1
      have q2 := cell_later hnw x2
      have q3 := cell_later hnw x3
      clear x1 x2 x3 ha
      have i1 : (0 : Int) ≤ (k : Int) := by omega
      have i2 : (k : Int) < (n : Int) := by omega
      have KK : Hid (∀ w1, Below wr.heap.size wr w1 → Calls Try.prog fn (#[.int .i64 (k : Nat), (l.getD k default).val] ++ caps) w1 fun e w' => e = .returned (f k).val ∧ Below w1.heap.size w1 w') := fun w1 hb => HH.out k w1 (by rw [HN.out]; exact hlt) (hnw.trans (hb.mono hnw.size))
      obtain ⟨⟨sa, ta, ba⟩, hz⟩ : ∃ z, l.getD k default = z := ⟨_, rfl⟩
      rw [hz] at q1 q2 q3 KK
      obtain ⟨⟨sb, tb, bb⟩, hf⟩ : ∃ z, f k = z := ⟨_, rfl⟩
      have HF : Hid (f k = ⟨sb, tb, bb⟩) := hf
      rw [hf] at KK
      unfold Slt.val at KK
      dsimp only at q1 q2 q3 KK
      clear hz hf
      go_wp2_with (first | (go_at_fn fn; refine (KK.out _ ((Below.refl _ _).alloc (Nat.le_refl _) _)).mono ?_; rintro e w1 ⟨rfl, hb1⟩; have hbx : Below wr.heap.size wr w1 := ((Below.refl _ _).alloc (Nat.le_refl _) _).trans (hb1.mono (by simp)); have HO1 : Hid (ownS w1 (w.heap.size + 2) u5 ((List.range k).map f)) := own_stay HOW.out hbx) | (at_builtin; refine append_slot rfl (.tmp 20) (.tmp 25) rfl (w.heap.size + 2) u5 _ rfl w1 HO1.out sb tb bb w1.heap.size rfl rfl (by simp; omega) (by have := hbx.size; omega) ?_; intro v2 w2 hown2 hgrow2))
      have hw2 : Below (w.heap.size + 2) w0 w2 := below_appendS (hnx.trans (hbx.mono (by omega))) (by have := hbx.size; omega) HO1.out hgrow2
      go_roundw
      case rel => exact ⟨k + 1, by omega, by go_num, hw2, by rw [ofs_succ, HF.out]; exact hown2⟩
      case measure => simp [intOf]; omega
    · have hkn : k = n := by omega
      subst hkn
      obtain ⟨ad, cp, hv, _⟩ := own_form HOW.out
      have hv2 : u5 = .slice ad k cp := by rw [hv]; simp
      clear hv
      subst hv2
      have y1 : wr.cell? ⟨w.heap.size + 1, 0, none⟩ = some (.slice none 0 0) := by rw [hnx.cell (p := ⟨w.heap.size + 1, 0, none⟩) (by simp)]; exact z1
      have y2 : wr.frozen? ⟨w.heap.size + 1, 0, none⟩ = false := by rw [hnx.frozen (p := ⟨w.heap.size + 1, 0, none⟩) (by simp)]; exact f1
      go_wp2
      have hO2 := ownsRow_setCell_below HOW.out (a := ⟨w.heap.size + 1, 0, none⟩) (by simp) (.slice ad k cp)
      have y3 : (wr.setCell ⟨w.heap.size + 1, 0, none⟩ (.slice ad k cp)).cell? ⟨w.heap.size + 1, 0, none⟩ = some (.slice ad k cp) := World.cell?_setCell_same _ _ _ y1
      exact bodyPost_ret (v := .agg #[.slice ad k cp]) (by simp [results, Try.results22, go_sem, y3]) rfl ⟨⟨ad, cp, rfl, World.ownsRow.mono hO2 (by omega)⟩, hnw.setCell (by simp) _⟩
end Go.Proofs.Ytdjlnloalpfmoaa.dk
