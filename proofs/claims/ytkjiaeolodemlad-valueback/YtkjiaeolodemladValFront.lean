/- The reference's front reads the cell that a key begins with. -/
import Derived.Test.YtkjiaeolodemladValRef
namespace Go.Proofs.Ytkjiaeolodemlad.vl
open Go.ChangeShapes Go.WideShapes Go.ChangeAt Go.RowKit
set_option linter.unusedVariables false
set_option linter.unusedSimpArgs false

/-- what front must read, if a right cell stands there -/
def reads (l : List UInt8) (c : Cel) (m : Nat) : Prop := ∀ (d : Cel) t, d.ok → d.wf → l = encC d ++ t → c = d ∧ m = (encC d).length
def frontRes (s : ByteArray) (e : Ending) : Prop := ∃ (c : Cel) (m : Nat), e = .returned (.tuple #[.agg #[.int .i64 c.k, .int .i64 c.n, .string c.s], .int .i64 (m : Int)]) ∧ m ≤ s.size ∧ c.wf ∧ reads s.data.toList c m
theorem reads_nil (c : Cel) (m : Nat) : reads [] c m := fun d t hd _ h => absurd (List.append_eq_nil_iff.1 h.symm).1 (encC_ne hd)
theorem reads_no {l : List UInt8} (h : noCell l) (c : Cel) (m : Nat) : reads l c m := fun d t hd hw e => absurd e (h d t hd hw)
theorem reads_null (l : List UInt8) : reads (0 :: l) ⟨0, 0, ⟨#[]⟩⟩ 1 := fun d t hd hw h => by
  obtain ⟨rfl, _⟩ := encC_inj (c := ⟨0, 0, ⟨#[]⟩⟩) (x := l) (chk_ok _ _ _ (by decide)) hd (wf0 _ _ (by decide) (by decide)) hw h
  exact ⟨rfl, rfl⟩
theorem reads_bool (b : UInt8) (l : List UInt8) : reads (1 :: b :: l) ⟨1, (b.toNat : Int), ⟨#[]⟩⟩ 2 := by
  by_cases hb : b = 0 ∨ b = 1
  · intro d t hd hw h
    obtain ⟨h1, h2⟩ := chk_bool b hb
    have hlt := b.toNat_lt
    obtain ⟨rfl, _⟩ := encC_inj (c := ⟨1, (b.toNat : Int), ⟨#[]⟩⟩) (x := l) h1 hd (wf0 _ _ (by omega) (by omega)) hw (by rw [h2]; exact h)
    exact ⟨rfl, by rw [h2]; rfl⟩
  · exact reads_no (no_bool (fun h => hb (.inl h)) (fun h => hb (.inr h))) _ _
theorem reads_int (l : List UInt8) (hl : 8 ≤ l.length) : reads (2 :: l) ⟨2, (beVal (l.take 8) : Int) - 9223372036854775808, ⟨#[]⟩⟩ 9 := fun d t hd hw h => by
  have hlt := beVal_lt (l.take 8) (by rw [List.length_take]; omega)
  obtain ⟨rfl, _⟩ := encC_inj (c := ⟨2, (beVal (l.take 8) : Int) - 9223372036854775808, ⟨#[]⟩⟩) (x := l.drop 8) (int_ok _) hd (wf0 _ _ (by omega) (by omega)) hw (by rw [← int_list l hl]; exact h)
  refine ⟨rfl, ?_⟩
  have e2 : encC ⟨2, (beVal (l.take 8) : Int) - 9223372036854775808, ⟨#[]⟩⟩ = 2 :: be8 (((beVal (l.take 8) : Int) - 9223372036854775808) + 9223372036854775808).toNat 8 := rfl
  rw [e2, List.length_cons, be8_len]

/-- what is left to be read of a text, wherever the text ends -/
def good (s : ByteArray) (t : List UInt8) (k : Nat) : Prop := ∀ t0 rest, s.data.toList.drop 1 = encT t0 ++ 0 :: 1 :: rest → ∃ t2, t0 = t ++ t2 ∧ s.data.toList.drop k = encT t2 ++ 0 :: 1 :: rest
theorem good_start (s : ByteArray) : good s [] 1 := fun t0 rest h => ⟨t0, rfl, h⟩
theorem good_byte {s : ByteArray} {t : List UInt8} {k : Nat} (h : good s t k) (hk : k < s.size) (hb : s[k] ≠ 0) : good s (t ++ [s[k]]) (k + 1) := fun t0 rest h0 => by
  obtain ⟨t2, e1, e2⟩ := h t0 rest h0
  rw [drop_cons s k hk] at e2
  cases t2 with
  | nil => simp [encT] at e2; exact absurd e2.1 hb
  | cons c t2 =>
    rw [encT_cons] at e2
    by_cases hc : c = 0
    · rw [if_pos hc] at e2; simp at e2; exact absurd e2.1 hb
    · rw [if_neg hc] at e2
      simp only [List.cons_append, List.nil_append, List.cons.injEq] at e2
      exact ⟨t2, by rw [e1, e2.1]; simp, e2.2⟩
theorem good_zero {s : ByteArray} {t : List UInt8} {k : Nat} (h : good s t k) (hk : k + 1 < s.size) (hb : s[k] = 0) (hc1 : s[k + 1] ≠ 1) : good s (t ++ [0]) (k + 1 + 1) := fun t0 rest h0 => by
  obtain ⟨t2, e1, e2⟩ := h t0 rest h0
  rw [drop_cons s k (by omega), drop_cons s (k + 1) hk, hb] at e2
  cases t2 with
  | nil => simp [encT] at e2; exact absurd e2.1 hc1
  | cons c t2 =>
    rw [encT_cons] at e2
    by_cases hc : c = 0
    · rw [if_pos hc] at e2
      simp only [List.cons_append, List.nil_append, List.cons.injEq] at e2
      exact ⟨t2, by rw [e1, hc]; simp, e2.2.2⟩
    · rw [if_neg hc] at e2; simp at e2; exact absurd e2.1.symm hc
theorem good_end {s : ByteArray} {t : List UInt8} {k : Nat} (h : good s t k) (hk : k + 1 < s.size) (hb : s[k] = 0) (hc1 : s[k + 1] = 1) (t0 rest : List UInt8)
    (h0 : s.data.toList.drop 1 = encT t0 ++ 0 :: 1 :: rest) : t0 = t ∧ k = 1 + (encT t0).length := by
  obtain ⟨t2, e1, e2⟩ := h t0 rest h0
  have hl1 := congrArg List.length h0
  have hl2 := congrArg List.length e2
  rw [drop_cons s k (by omega), drop_cons s (k + 1) hk, hb, hc1] at e2
  have : t2 = [] := by
    cases t2 with
    | nil => rfl
    | cons c t2 =>
      rw [encT_cons] at e2
      by_cases hc : c = 0
      · rw [if_pos hc] at e2; simp at e2
      · rw [if_neg hc] at e2; simp at e2; exact absurd e2.1.symm hc
  subst this
  rw [List.append_nil] at e1
  refine ⟨e1, ?_⟩
  simp only [List.length_drop, List.length_append, List.length_cons, list_len, encT, List.flatMap_nil, List.length_nil] at hl1 hl2
  unfold encT
  omega
theorem good_none {s : ByteArray} {t : List UInt8} {k : Nat} (h : good s t k) (hk : s.size ≤ k + 1) : noText (s.data.toList.drop 1) := fun t0 rest _ h0 => by
  obtain ⟨t2, e1, e2⟩ := h t0 rest h0
  have := congrArg List.length e2
  simp only [List.length_drop, List.length_append, List.length_cons, list_len] at this
  omega
theorem reads_text (s : ByteArray) (hs : 0 < s.size) (h0 : s[0] = 3) (t : List UInt8) (k : Nat) (hk : k + 1 < s.size) (h : good s t k) (hb : s[k] = 0) (hc1 : s[k + 1] = 1) : reads s.data.toList ⟨3, 0, ⟨t.toArray⟩⟩ (k + 2) := fun d r hd hw e => by
  have e0 : s.data.toList = s[0] :: s.data.toList.drop 1 := by have := drop_cons s 0 hs; simpa using this
  rw [e0, h0] at e
  rcases encC_cases hd with ⟨_, e'⟩ | ⟨_, e'⟩ | ⟨_, e'⟩ | ⟨n, _, e'⟩ | ⟨q, rfl, hq, e'⟩ <;> rw [e'] at e <;> simp only [List.cons_append, List.nil_append, List.cons.injEq] at e
  · exact absurd e.1 (by decide)
  · exact absurd e.1 (by decide)
  · exact absurd e.1 (by decide)
  · exact absurd e.1 (by decide)
  · obtain ⟨h1, h2⟩ := good_end h hk hb hc1 q.data.toList r (by simpa using e.2)
    refine ⟨by rw [← h1], ?_⟩
    rw [e']
    simp only [List.length_cons, List.length_append, List.length_nil]
    omega
theorem list_tail (s : ByteArray) (hs : 0 < s.size) : s.data.toList = s[0] :: s.data.toList.drop 1 := by have := drop_cons s 0 hs; simpa using this
end Go.Proofs.Ytkjiaeolodemlad.vl
