/- appendCell and Key: the key of a row. -/
import Derived.Test.YtibjihdeknndoaaValKey
namespace Go.Proofs.Ytibjihdeknndoaa.vl
open Go.ChangeShapes Go.WideShapes Go.ChangeAt Go.RowKit
set_option linter.unusedVariables false
set_option linter.unusedSimpArgs false

/-- a cell's bytes in a key -/
def encC (c : Cel) : List UInt8 :=
  if c.k = 0 then [0] else if c.k = 1 then [1, UInt8.ofNat c.n.toNat] else if c.k = 2 then 2 :: be8 (c.n + 9223372036854775808).toNat 8 else 3 :: (encT c.s.data.toList ++ [0, 1])
def Cel.ok (c : Cel) : Prop := chk c.k c.n c.s = 0
theorem chk_cases {k n : Int} {s : ByteArray} (h : chk k n s = 0) :
    s.size ≤ 64 ∧ ((k = 0 ∧ n = 0 ∧ s.size = 0) ∨ (k = 1 ∧ n = 0 ∧ s.size = 0) ∨ (k = 1 ∧ n = 1 ∧ s.size = 0) ∨ (k = 2 ∧ s.size = 0) ∨ (k = 3 ∧ n = 0)) := by
  unfold chk at h
  split at h
  · omega
  · split at h
    · omega
    · split at h
      · omega
      · omega

theorem ownB_alloc {w : World} {base : Nat} {v : Value} {l : List UInt8} (h : ownB w base v l) (o : Obj) : ownB (w.alloc o) base v l := World.ownsRow.alloc h o

theorem box_kept {w w1 : World} {v : Value} {l : List UInt8} {base : Nat} (ho : ownB w base v l) {o1 o2 : Obj} (hg : ((w.alloc o1).alloc o2).grownBy w1 v.ownBlock) (j : Nat) {x : Value}
    (hc : (w.alloc o1).cell? ⟨w.heap.size, j, none⟩ = some x) : w1.cell? ⟨w.heap.size, j, none⟩ = some x := by
  refine hg.cell ?_ ?_
  · rw [World.cell?_alloc_lt]
    · exact hc
    · simp
  · intro h
    have := (World.ownsRow.lt ho w.heap.size h.symm).2
    omega

set_option maxHeartbeats 1000000 in
theorem appendCell_any (base : Nat) (v : Value) (l : List UInt8) (k n : Int) (s : ByteArray) (w : World) (hb : base ≤ w.heap.size) (ho : ownB w base v l) (hl : l.length ≤ 900000)
    (n1 : -9223372036854775808 ≤ n) (n2 : n ≤ 9223372036854775807) (hc : chk k n s = 0) :
    Calls Try.prog 69 #[v, .agg #[.int .i64 k, .int .i64 n, .string s]] w fun e w' => ∃ v', e = .returned v' ∧ ownB w' base v' (l ++ encC ⟨k, n, s⟩) ∧ Below base w w' := by
  obtain ⟨hs, hk⟩ := chk_cases hc
  clear hc
  rcases hk with ⟨rfl, rfl, hs0⟩ | ⟨rfl, rfl, hs0⟩ | ⟨rfl, rfl, hs0⟩ | ⟨rfl, hs0⟩ | ⟨rfl, rfl⟩
  · go_enter Try.func69, Try.ntmps69
    go_wp2_with (at_builtin; refine append_byte rfl (.tmp 5) (.tmp 9) rfl base v l rfl _ (ownB_alloc ho _) _ 0 rfl (w.heap.size + 1) (by simp) rfl (by omega) (by simp; omega) ?_; intro v1 w1 hown1 hgrow1; have g0 := box_kept (x := .int .i64 0) ho hgrow1 0 (by go_simp); have g1 := box_kept (x := .int .i64 0) ho hgrow1 1 (by go_simp); have g2 := box_kept (x := .string s) ho hgrow1 2 (by go_simp); have hbl := below_append ((Below.refl base w).alloc hb _) (by simp; omega) (ownB_alloc ho _) hgrow1; have hb1 : base ≤ w1.heap.size := Nat.le_trans hb hbl.size; clear hgrow1)
    go_ret
    exact ⟨_, rfl, hown1, hbl⟩
  · go_enter Try.func69, Try.ntmps69
    go_wp2_with (first
      | (at_builtin; refine append_byte rfl (.tmp 5) (.tmp 9) rfl base v l rfl _ (ownB_alloc ho _) _ 1 rfl (w.heap.size + 1) (by simp) rfl (by omega) (by simp; omega) ?_; intro v1 w1 hown1 hgrow1; have g0 := box_kept (x := .int .i64 1) ho hgrow1 0 (by go_simp); have g1 := box_kept (x := .int .i64 0) ho hgrow1 1 (by go_simp); have g2 := box_kept (x := .string s) ho hgrow1 2 (by go_simp); have hbl := below_append ((Below.refl base w).alloc hb _) (by simp; omega) (ownB_alloc ho _) hgrow1; have hb1 : base ≤ w1.heap.size := Nat.le_trans hb hbl.size; clear hgrow1)
      | (at_builtin; refine append_byte rfl (.tmp 15) (.tmp 19) rfl base v1 (l ++ [1]) rfl _ hown1 _ 0 rfl w1.heap.size rfl rfl (by simp; omega) hb1 ?_; intro v2 w2 hown2 hgrow2))
    go_ret
    exact ⟨_, rfl, by simpa [encC, List.append_assoc] using hown2, below_append hbl hb1 hown1 hgrow2⟩
  · go_enter Try.func69, Try.ntmps69
    go_wp2_with (first
      | (at_builtin; refine append_byte rfl (.tmp 5) (.tmp 9) rfl base v l rfl _ (ownB_alloc ho _) _ 1 rfl (w.heap.size + 1) (by simp) rfl (by omega) (by simp; omega) ?_; intro v1 w1 hown1 hgrow1; have g0 := box_kept (x := .int .i64 1) ho hgrow1 0 (by go_simp); have g1 := box_kept (x := .int .i64 1) ho hgrow1 1 (by go_simp); have g2 := box_kept (x := .string s) ho hgrow1 2 (by go_simp); have hbl := below_append ((Below.refl base w).alloc hb _) (by simp; omega) (ownB_alloc ho _) hgrow1; have hb1 : base ≤ w1.heap.size := Nat.le_trans hb hbl.size; clear hgrow1)
      | (at_builtin; refine append_byte rfl (.tmp 15) (.tmp 19) rfl base v1 (l ++ [1]) rfl _ hown1 _ 1 rfl w1.heap.size rfl rfl (by simp; omega) hb1 ?_; intro v2 w2 hown2 hgrow2))
    go_ret
    exact ⟨_, rfl, by simpa [encC, List.append_assoc] using hown2, below_append hbl hb1 hown1 hgrow2⟩
  · go_enter Try.func69, Try.ntmps69
    go_wp2_with (first
      | (at_builtin; refine append_byte rfl (.tmp 5) (.tmp 9) rfl base v l rfl _ (ownB_alloc ho _) _ 2 rfl (w.heap.size + 1) (by simp) rfl (by omega) (by simp; omega) ?_; intro v1 w1 hown1 hgrow1; have g0 := box_kept (x := .int .i64 2) ho hgrow1 0 (by go_simp); have g1 := box_kept (x := .int .i64 n) ho hgrow1 1 (by go_simp); have g2 := box_kept (x := .string s) ho hgrow1 2 (by go_simp); have hbl := below_append ((Below.refl base w).alloc hb _) (by simp; omega) (ownB_alloc ho _) hgrow1; have hb1 : base ≤ w1.heap.size := Nat.le_trans hb hbl.size; clear hgrow1)
      | (go_at_call 82; refine (appendInt_any base v1 (l ++ [2]) n w1 hb1 hown1 (by simp; omega) n1 n2).mono ?_; rintro e w2 ⟨v2, rfl, hown2, hb2⟩))
    go_ret
    exact ⟨_, rfl, by simpa [encC, List.append_assoc] using hown2, hbl.trans hb2⟩
  · go_enter Try.func69, Try.ntmps69
    go_wp2_with (first
      | (at_builtin; refine append_byte rfl (.tmp 5) (.tmp 9) rfl base v l rfl _ (ownB_alloc ho _) _ 3 rfl (w.heap.size + 1) (by simp) rfl (by omega) (by simp; omega) ?_; intro v1 w1 hown1 hgrow1; have g0 := box_kept (x := .int .i64 3) ho hgrow1 0 (by go_simp); have g1 := box_kept (x := .int .i64 0) ho hgrow1 1 (by go_simp); have g2 := box_kept (x := .string s) ho hgrow1 2 (by go_simp); have hbl := below_append ((Below.refl base w).alloc hb _) (by simp; omega) (ownB_alloc ho _) hgrow1; have hb1 : base ≤ w1.heap.size := Nat.le_trans hb hbl.size; clear hgrow1)
      | (go_at_call 83; refine (appendText_any base v1 (l ++ [3]) s w1 hb1 hown1 (by simp; omega) hs).mono ?_; rintro e w2 ⟨v2, rfl, hown2, hb2⟩))
    go_ret
    exact ⟨_, rfl, by simpa [encC, List.append_assoc] using hown2, hbl.trans hb2⟩

/-- the key of a row, and what is wrong with it -/
def encR (r : List Cel) : List UInt8 := r.flatMap encC
def errR : List Cel → Int
  | [] => 0
  | c :: r => if chk c.k c.n c.s = 0 then errR r else chk c.k c.n c.s
def keyErr (r : List Cel) : Int := if 8 < r.length then 2 else errR r
theorem errR_drop (r : List Cel) (k : Nat) (h : ∀ i, i < k → ((r.getD i default).ok)) : errR r = errR (r.drop k) := by
  induction k generalizing r with
  | zero => rfl
  | succ k ih =>
    match r with
    | [] => rfl
    | c :: r =>
      have h0 : chk c.k c.n c.s = 0 := h 0 (by omega)
      rw [errR, if_pos h0, List.drop_succ_cons]
      exact ih r (fun i hi => h (i + 1) (by omega))
theorem encC_len (c : Cel) (h : c.ok) : (encC c).length ≤ 131 := by
  have hs := (chk_cases h).1
  unfold encC
  split
  · simp
  · split
    · simp
    · split
      · simp [be8_len]
      · have := encT_len c.s.data.toList
        simp only [List.length_cons, List.length_append, List.length_nil]
        have e : c.s.data.toList.length = c.s.size := Array.length_toList
        omega
theorem encR_len (r : List Cel) (h : ∀ c ∈ r, c.ok) : (encR r).length ≤ 131 * r.length := by
  induction r with
  | nil => simp [encR]
  | cons c r ih =>
    have e : encR (c :: r) = encC c ++ encR r := rfl
    have h1 := encC_len c (h c (List.mem_cons_self ..))
    have h2 := ih (fun x hx => h x (List.mem_cons_of_mem _ hx))
    rw [e, List.length_append, List.length_cons]; omega
theorem encR_snoc (r : List Cel) (c : Cel) : encR (r ++ [c]) = encR r ++ encC c := by
  unfold encR; rw [List.flatMap_append]; simp
theorem take_getD (r : List Cel) (k : Nat) (h : k < r.length) : r.take (k + 1) = r.take k ++ [r.getD k default] := by
  rw [List.take_succ_eq_append_getElem h]; simp [List.getD_eq_getElem?_getD, h]
end Go.Proofs.Ytibjihdeknndoaa.vl
