/- Keys tell their rows: what a key begins with is one cell's, and a row is read off its key in one way only. No Go in sight. -/
import Derived.Test.YtibjihdeknndoaaValKey3
namespace Go.Proofs.Ytibjihdeknndoaa.vl
set_option linter.unusedVariables false
set_option linter.unusedSimpArgs false

theorem encT_cons (b : UInt8) (x : List UInt8) : encT (b :: x) = (if b = 0 then [0, 255] else [b]) ++ encT x := rfl
theorem encT_split (x t tail rest : List UInt8) (h : encT x ++ tail = encT t ++ 0 :: 1 :: rest) : ∃ t2, t = x ++ t2 ∧ tail = encT t2 ++ 0 :: 1 :: rest := by
  induction x generalizing t with
  | nil => exact ⟨t, rfl, h⟩
  | cons b x ih =>
    rw [encT_cons] at h
    cases t with
    | nil =>
      by_cases hb : b = 0
      · rw [if_pos hb] at h
        simp [encT] at h
      · rw [if_neg hb] at h
        simp [encT] at h
        exact absurd h.1 hb
    | cons c t =>
      rw [encT_cons] at h
      by_cases hb : b = 0
      · rw [if_pos hb] at h
        by_cases hc : c = 0
        · rw [if_pos hc] at h
          have h' : encT x ++ tail = encT t ++ 0 :: 1 :: rest := by simpa using h
          obtain ⟨t2, e1, e2⟩ := ih t h'
          exact ⟨t2, by rw [hb, hc, e1]; rfl, e2⟩
        · rw [if_neg hc] at h
          simp at h
          exact absurd h.1.symm hc
      · rw [if_neg hb] at h
        by_cases hc : c = 0
        · rw [if_pos hc] at h
          simp at h
          exact absurd h.1 hb
        · rw [if_neg hc] at h
          simp only [List.cons_append, List.nil_append, List.cons.injEq] at h
          obtain ⟨t2, e1, e2⟩ := ih t h.2
          exact ⟨t2, by rw [h.1, e1]; rfl, e2⟩

/-- the number of which these are the bytes -/
def beVal (l : List UInt8) : Nat := l.foldl (fun u b => u * 256 + b.toNat) 0
theorem ofNat_toNat (n : Nat) : (UInt8.ofNat n).toNat = n % 256 := UInt8.toNat_ofNat'
theorem be8_8 (u : Nat) : be8 u 8 = [byteAt u 0, byteAt u 1, byteAt u 2, byteAt u 3, byteAt u 4, byteAt u 5, byteAt u 6, byteAt u 7] := rfl
theorem beVal_be8 (u : Nat) (h : u < 18446744073709551616) : beVal (be8 u 8) = u := by
  rw [be8_8]
  simp only [beVal, List.foldl_cons, List.foldl_nil, byteAt, ofNat_toNat]
  simp only [Nat.reduceMul, Nat.reduceSub, Nat.reducePow, Nat.reduceAdd]
  omega
theorem byte_eq {a b : UInt8} (h : a.toNat = b.toNat) : a = b := UInt8.toNat_inj.1 h
theorem be8_beVal (l : List UInt8) (h : l.length = 8) : be8 (beVal l) 8 = l := by
  match l, h with
  | [b0, b1, b2, b3, b4, b5, b6, b7], _ =>
    have h0 := b0.toNat_lt
    have h1 := b1.toNat_lt
    have h2 := b2.toNat_lt
    have h3 := b3.toNat_lt
    have h4 := b4.toNat_lt
    have h5 := b5.toNat_lt
    have h6 := b6.toNat_lt
    have h7 := b7.toNat_lt
    rw [be8_8]
    simp only [List.cons.injEq, and_true]
    refine ⟨?_, ?_, ?_, ?_, ?_, ?_, ?_, ?_⟩ <;>
      (apply byte_eq; simp only [beVal, List.foldl_cons, List.foldl_nil, byteAt, ofNat_toNat]; simp only [Nat.reduceMul, Nat.reduceSub, Nat.reducePow, Nat.reduceAdd]; omega)
theorem beVal_lt (l : List UInt8) (h : l.length = 8) : beVal l < 18446744073709551616 := by
  match l, h with
  | [b0, b1, b2, b3, b4, b5, b6, b7], _ =>
    have h0 := b0.toNat_lt
    have h1 := b1.toNat_lt
    have h2 := b2.toNat_lt
    have h3 := b3.toNat_lt
    have h4 := b4.toNat_lt
    have h5 := b5.toNat_lt
    have h6 := b6.toNat_lt
    have h7 := b7.toNat_lt
    simp only [beVal, List.foldl_cons, List.foldl_nil]
    omega

/-- one's numbers are the machine's -/
def Cel.wf (c : Cel) : Prop := (-9223372036854775808 ≤ c.n ∧ c.n ≤ 9223372036854775807) ∧ c.s.size ≤ maxLen

theorem size0 {s : ByteArray} (h : s.size = 0) : s = ⟨#[]⟩ := ByteArray.ext (Array.eq_empty_of_size_eq_zero h)
theorem str_eq {s t : ByteArray} (h : s.data.toList = t.data.toList) : s = t := ByteArray.ext (Array.ext' h)

/-- what begins a key: the five makes of a cell -/
theorem encC_cases {c : Cel} (h : c.ok) :
    (c = ⟨0, 0, ⟨#[]⟩⟩ ∧ encC c = [0]) ∨ (c = ⟨1, 0, ⟨#[]⟩⟩ ∧ encC c = [1, 0]) ∨ (c = ⟨1, 1, ⟨#[]⟩⟩ ∧ encC c = [1, 1]) ∨
    (∃ n, c = ⟨2, n, ⟨#[]⟩⟩ ∧ encC c = 2 :: be8 (n + 9223372036854775808).toNat 8) ∨ (∃ s, c = ⟨3, 0, s⟩ ∧ s.size ≤ 64 ∧ encC c = 3 :: (encT s.data.toList ++ [0, 1])) := by
  obtain ⟨k, n, s⟩ := c
  obtain ⟨hs, hk⟩ := chk_cases h
  dsimp only at hs hk
  rcases hk with ⟨rfl, rfl, h0⟩ | ⟨rfl, rfl, h0⟩ | ⟨rfl, rfl, h0⟩ | ⟨rfl, h0⟩ | ⟨rfl, rfl⟩
  · rw [size0 h0]; exact .inl ⟨rfl, rfl⟩
  · rw [size0 h0]; exact .inr (.inl ⟨rfl, rfl⟩)
  · rw [size0 h0]; exact .inr (.inr (.inl ⟨rfl, rfl⟩))
  · rw [size0 h0]; exact .inr (.inr (.inr (.inl ⟨n, rfl, rfl⟩)))
  · exact .inr (.inr (.inr (.inr ⟨s, rfl, hs, rfl⟩)))

theorem encC_ne {c : Cel} (h : c.ok) : encC c ≠ [] := by
  rcases encC_cases h with ⟨_, e⟩ | ⟨_, e⟩ | ⟨_, e⟩ | ⟨n, _, e⟩ | ⟨s, _, _, e⟩ <;> rw [e] <;> simp

theorem append_cancel8 {a b x y : List UInt8} (ha : a.length = b.length) (h : a ++ x = b ++ y) : a = b ∧ x = y := List.append_inj h ha

/-- A KEY BEGINS WITH ONE CELL -/
theorem encC_inj {c d : Cel} {x y : List UInt8} (hc : c.ok) (hd : d.ok) (wc : c.wf) (wd : d.wf) (h : encC c ++ x = encC d ++ y) : c = d ∧ x = y := by
  rcases encC_cases hc with ⟨rfl, e⟩ | ⟨rfl, e⟩ | ⟨rfl, e⟩ | ⟨n, rfl, e⟩ | ⟨s, rfl, hs, e⟩ <;>
  rcases encC_cases hd with ⟨rfl, e'⟩ | ⟨rfl, e'⟩ | ⟨rfl, e'⟩ | ⟨m, rfl, e'⟩ | ⟨t, rfl, ht, e'⟩ <;>
  simp only [e, e', List.cons_append, List.nil_append, List.cons.injEq] at h
  all_goals try (exact ⟨rfl, h.2⟩)
  all_goals try (exact ⟨rfl, h.2.2⟩)
  all_goals try (exact absurd h.1 (by decide))
  all_goals try (exact absurd h.2.1 (by decide))
  · obtain ⟨h1, h2⟩ := append_cancel8 (by rw [be8_len, be8_len]) h.2
    have := congrArg beVal h1
    obtain ⟨⟨n1, n2⟩, _⟩ := wc
    obtain ⟨⟨m1, m2⟩, _⟩ := wd
    dsimp only at n1 n2 m1 m2
    rw [beVal_be8 _ (by omega), beVal_be8 _ (by omega)] at this
    have e : n = m := by omega
    exact ⟨by rw [e], h2⟩
  · have h' : encT s.data.toList ++ 0 :: 1 :: x = encT t.data.toList ++ 0 :: 1 :: y := by simpa using h.2
    obtain ⟨t2, e1, e2⟩ := encT_split _ _ _ _ h'
    have : t2 = [] := by
      cases t2 with
      | nil => rfl
      | cons b t2 =>
        rw [encT_cons] at e2
        by_cases hb : b = 0
        · rw [if_pos hb] at e2; simp at e2
        · rw [if_neg hb] at e2; simp at e2; exact absurd e2.1.symm hb
    subst this
    rw [List.append_nil] at e1
    have e3 : x = y := by simpa [encT] using e2
    exact ⟨by rw [str_eq e1], e3⟩
end Go.Proofs.Ytibjihdeknndoaa.vl
