/- Of two rows the one that comes ahead has the lesser key. No Go in sight. -/
import Derived.Test.YtkjiaeolodemlafValRead2
namespace Go.Proofs.Ytkjiaeolodemlaf.vl
set_option linter.unusedVariables false
set_option linter.unusedSimpArgs false

theorem cmpB_same (l x y : List UInt8) : Lib.compareBytes (l ++ x) (l ++ y) = Lib.compareBytes x y := by
  induction l with
  | nil => rfl
  | cons a l ih =>
    rw [List.cons_append, List.cons_append, Lib.compareBytes, if_neg (UInt8.lt_irrefl a), if_neg (UInt8.lt_irrefl a)]
    exact ih
theorem cmpB_lt {a b : UInt8} (x y : List UInt8) (h : a < b) : Lib.compareBytes (a :: x) (b :: y) = -1 := by rw [Lib.compareBytes, if_pos h]
theorem cmpB_gt {a b : UInt8} (x y : List UInt8) (h : b < a) : Lib.compareBytes (a :: x) (b :: y) = 1 := by
  rw [Lib.compareBytes, if_neg (fun h' => absurd (UInt8.lt_trans h h') (UInt8.lt_irrefl b)), if_pos h]

theorem fold_acc (l : List UInt8) (a : Nat) : l.foldl (fun u b => u * 256 + b.toNat) a = a * 256 ^ l.length + beVal l := by
  induction l generalizing a with
  | nil => simp [beVal]
  | cons b l ih =>
    have e : beVal (b :: l) = (b :: l).foldl (fun u b => u * 256 + b.toNat) 0 := rfl
    rw [e, List.foldl_cons, List.foldl_cons, ih, ih (0 * 256 + b.toNat), List.length_cons, Nat.pow_succ]
    rw [Nat.add_mul, Nat.mul_assoc, Nat.mul_comm 256, Nat.zero_mul, Nat.zero_add]
    omega
theorem beVal_cons (b : UInt8) (l : List UInt8) : beVal (b :: l) = b.toNat * 256 ^ l.length + beVal l := by
  have e : beVal (b :: l) = l.foldl (fun u b => u * 256 + b.toNat) (0 * 256 + b.toNat) := rfl
  rw [e, fold_acc]; simp
theorem cmpB_be (l m x y : List UInt8) (h : l.length = m.length) :
    Lib.compareBytes (l ++ x) (m ++ y) = if beVal l < beVal m then -1 else if beVal m < beVal l then 1 else Lib.compareBytes x y := by
  induction l generalizing m with
  | nil =>
    cases m with
    | nil => simp [beVal]
    | cons b m => simp at h
  | cons a l ih =>
    cases m with
    | nil => simp at h
    | cons b m =>
      have hl : l.length = m.length := by simpa using h
      have b1 := beVal_bound l
      have b2 := beVal_bound m
      rw [List.cons_append, List.cons_append, beVal_cons, beVal_cons]
      rw [hl] at b1 ⊢
      by_cases h1 : a < b
      · have h1' : a.toNat + 1 ≤ b.toNat := UInt8.lt_iff_toNat_lt.1 h1
        have := Nat.mul_le_mul_right (256 ^ m.length) h1'
        rw [Nat.add_mul] at this
        rw [cmpB_lt _ _ h1, if_pos (by omega)]
      · by_cases h2 : b < a
        · have h2' : b.toNat + 1 ≤ a.toNat := UInt8.lt_iff_toNat_lt.1 h2
          have := Nat.mul_le_mul_right (256 ^ m.length) h2'
          rw [Nat.add_mul] at this
          rw [cmpB_gt _ _ h2, if_neg (by omega), if_pos (by omega)]
        · have h3 : a = b := UInt8.le_antisymm (UInt8.not_lt.1 h2) (UInt8.not_lt.1 h1)
          subst h3
          rw [Lib.compareBytes, if_neg h1, if_neg h1, ih m hl]
          simp only [Nat.add_lt_add_iff_left]

theorem pos_of_ne {b : UInt8} (h : b ≠ 0) : (0 : UInt8) < b := by
  rcases Nat.eq_zero_or_pos b.toNat with h0 | h0
  · exact absurd (byte_eq h0) h
  · exact UInt8.lt_iff_toNat_lt.2 h0

theorem cmpB_text (s t x y : List UInt8) :
    Lib.compareBytes (encT s ++ 0 :: 1 :: x) (encT t ++ 0 :: 1 :: y) = if Lib.compareBytes s t = 0 then Lib.compareBytes x y else Lib.compareBytes s t := by
  induction s generalizing t with
  | nil =>
    cases t with
    | nil => simp [encT, Lib.compareBytes]
    | cons b t =>
      rw [encT_cons]
      by_cases hb : b = 0
      · rw [if_pos hb]; simp [encT, Lib.compareBytes]
      · have := pos_of_ne hb
        rw [if_neg hb]; simp [encT, Lib.compareBytes, this]
  | cons a s ih =>
    cases t with
    | nil =>
      rw [encT_cons]
      by_cases ha : a = 0
      · rw [if_pos ha]; simp [encT, Lib.compareBytes]
      · have := pos_of_ne ha
        have h2 : ¬ a < 0 := fun h => absurd (UInt8.lt_trans this h) (UInt8.lt_irrefl 0)
        rw [if_neg ha]; simp [encT, Lib.compareBytes, this, h2]
    | cons b t =>
      rw [encT_cons, encT_cons]
      by_cases hab : a = b
      · subst hab
        rw [List.append_assoc, List.append_assoc, cmpB_same, ih t, Lib.compareBytes, if_neg (UInt8.lt_irrefl a), if_neg (UInt8.lt_irrefl a)]
      · by_cases h1 : a < b
        · have e : Lib.compareBytes (a :: s) (b :: t) = -1 := cmpB_lt _ _ h1
          have hb : b ≠ 0 := fun h => by subst h; exact absurd (UInt8.lt_iff_toNat_lt.1 h1) (Nat.not_lt_zero _)
          rw [e, if_neg (show ¬ ((-1 : Int) = 0) by decide), if_neg hb]
          by_cases ha : a = 0
          · rw [if_pos ha]
            exact cmpB_lt _ _ (pos_of_ne hb)
          · rw [if_neg ha]
            exact cmpB_lt _ _ h1
        · have h2 : b < a := by
            rcases Nat.lt_trichotomy a.toNat b.toNat with h | h | h
            · exact absurd (UInt8.lt_iff_toNat_lt.2 h) h1
            · exact absurd (byte_eq h) hab
            · exact UInt8.lt_iff_toNat_lt.2 h
          have e : Lib.compareBytes (a :: s) (b :: t) = 1 := cmpB_gt _ _ h2
          have ha : a ≠ 0 := fun h => by subst h; exact absurd (UInt8.lt_iff_toNat_lt.1 h2) (Nat.not_lt_zero _)
          rw [e, if_neg (show ¬ ((1 : Int) = 0) by decide), if_neg ha]
          by_cases hb : b = 0
          · rw [if_pos hb]
            exact cmpB_gt _ _ (pos_of_ne ha)
          · rw [if_neg hb]
            exact cmpB_gt _ _ h2

theorem cmpC_of (c d : Cel) : cmpC c d = if ordI c.k d.k = 0 then (if ordI c.n d.n = 0 then Lib.compareBytes c.s.data.toList d.s.data.toList else ordI c.n d.n) else ordI c.k d.k := by
  unfold cmpC cmpV firstNZ firstNZ firstNZ firstNZ
  by_cases h1 : ordI c.k d.k = 0
  · rw [if_pos h1, if_pos h1]
    by_cases h2 : ordI c.n d.n = 0
    · rw [if_pos h2, if_pos h2]
      split
      · rename_i h; exact h.symm
      · rfl
    · rw [if_neg h2, if_neg h2]
  · rw [if_neg h1, if_neg h1]

theorem cmpB_cell {c d : Cel} (hc : c.ok) (hd : d.ok) (wc : c.wf) (wd : d.wf) (x y : List UInt8) :
    Lib.compareBytes (encC c ++ x) (encC d ++ y) = if cmpC c d = 0 then Lib.compareBytes x y else cmpC c d := by
  rw [cmpC_of]
  rcases encC_cases hc with ⟨rfl, e⟩ | ⟨rfl, e⟩ | ⟨rfl, e⟩ | ⟨n, rfl, e⟩ | ⟨s, rfl, hs, e⟩ <;>
  rcases encC_cases hd with ⟨rfl, e'⟩ | ⟨rfl, e'⟩ | ⟨rfl, e'⟩ | ⟨m, rfl, e'⟩ | ⟨t, rfl, ht, e'⟩ <;>
  simp only [e, e', List.cons_append, List.nil_append]
  all_goals try (rw [cmpB_lt _ _ (by decide)]; rfl)
  all_goals try (rw [cmpB_gt _ _ (by decide)]; rfl)
  · exact cmpB_same [0] x y
  · exact cmpB_same [1, 0] x y
  · have := cmpB_same [1] (0 :: x) (1 :: y)
    simp only [List.cons_append, List.nil_append] at this
    rw [this, cmpB_lt _ _ (by decide)]; rfl
  · have := cmpB_same [1] (1 :: x) (0 :: y)
    simp only [List.cons_append, List.nil_append] at this
    rw [this, cmpB_gt _ _ (by decide)]; rfl
  · exact cmpB_same [1, 1] x y
  · obtain ⟨⟨n1, n2⟩, _⟩ := wc
    obtain ⟨⟨m1, m2⟩, _⟩ := wd
    dsimp only at n1 n2 m1 m2 ⊢
    have := cmpB_same [2] (be8 (n + 9223372036854775808).toNat 8 ++ x) (be8 (m + 9223372036854775808).toNat 8 ++ y)
    simp only [List.cons_append, List.nil_append] at this
    rw [this, cmpB_be _ _ _ _ (by rw [be8_len, be8_len]), beVal_be8 _ (by omega), beVal_be8 _ (by omega)]
    have e0 : ordI 2 2 = 0 := by decide
    rw [e0, if_pos rfl]
    unfold ordI
    by_cases h1 : n < m
    · rw [if_pos (by omega), if_pos h1]; rfl
    · rw [if_neg (by omega), if_neg h1]
      by_cases h2 : m < n
      · rw [if_pos (by omega), if_pos h2]; rfl
      · rw [if_neg (by omega), if_neg h2]; rfl
  · have := cmpB_same [3] (encT s.data.toList ++ [0, 1] ++ x) (encT t.data.toList ++ [0, 1] ++ y)
    simp only [List.cons_append, List.nil_append, List.append_assoc] at this ⊢
    rw [this, cmpB_text]
    rfl

/-- OF TWO ROWS THE ONE THAT COMES AHEAD HAS THE LESSER KEY -/
theorem cmpB_rows (a b : List Cel) (ha : ∀ c ∈ a, c.ok ∧ c.wf) (hb : ∀ c ∈ b, c.ok ∧ c.wf) : Lib.compareBytes (encR a) (encR b) = cmpRows a b := by
  induction a generalizing b with
  | nil =>
    cases b with
    | nil => rfl
    | cons d b =>
      have e : encR (d :: b) = encC d ++ encR b := rfl
      rw [e]
      have := encC_ne (hb d (List.mem_cons_self ..)).1
      cases h : encC d with
      | nil => exact absurd h this
      | cons z zs => rfl
  | cons c a ih =>
    have ec : encR (c :: a) = encC c ++ encR a := rfl
    have hc := ha c (List.mem_cons_self ..)
    cases b with
    | nil =>
      rw [ec]
      cases h : encC c with
      | nil => exact absurd h (encC_ne hc.1)
      | cons z zs => rfl
    | cons d b =>
      have ed : encR (d :: b) = encC d ++ encR b := rfl
      have hd := hb d (List.mem_cons_self ..)
      rw [ec, ed, cmpB_cell hc.1 hd.1 hc.2 hd.2, ih b (fun x hx => ha x (List.mem_cons_of_mem _ hx)) (fun x hx => hb x (List.mem_cons_of_mem _ hx)), cmpRows]
theorem cmpB_zero : ∀ {a b : List UInt8}, Lib.compareBytes a b = 0 ↔ a = b
  | [], [] => by simp [Lib.compareBytes]
  | [], _ :: _ => by simp [Lib.compareBytes]
  | _ :: _, [] => by simp [Lib.compareBytes]
  | a :: x, b :: y => by
    rw [Lib.compareBytes]
    by_cases h1 : a < b
    · rw [if_pos h1]
      exact ⟨fun h => absurd h (by decide), fun h => by cases h; exact absurd h1 (UInt8.lt_irrefl a)⟩
    · rw [if_neg h1]
      by_cases h2 : b < a
      · rw [if_pos h2]
        exact ⟨fun h => absurd h (by decide), fun h => by cases h; exact absurd h2 (UInt8.lt_irrefl a)⟩
      · rw [if_neg h2]
        have h3 : a = b := UInt8.le_antisymm (UInt8.not_lt.1 h2) (UInt8.not_lt.1 h1)
        rw [cmpB_zero, h3]; simp
theorem encR_inj {a b : List Cel} (ha : ∀ c ∈ a, c.ok ∧ c.wf) (hb : ∀ c ∈ b, c.ok ∧ c.wf) (h : encR a = encR b) : a = b := by
  obtain ⟨r2, e1, e2⟩ := encR_split a b [] ha hb (by rw [List.append_nil]; exact h)
  cases r2 with
  | nil => rw [e1, List.append_nil]
  | cons d r2 =>
    have hd := hb d (by rw [e1]; simp)
    have e3 : encR (d :: r2) = encC d ++ encR r2 := rfl
    rw [e3] at e2
    exact absurd (List.append_eq_nil_iff.1 e2.symm).1 (encC_ne hd.1)
end Go.Proofs.Ytkjiaeolodemlaf.vl
