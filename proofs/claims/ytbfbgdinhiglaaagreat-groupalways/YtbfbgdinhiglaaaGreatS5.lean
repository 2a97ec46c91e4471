import Derived.Test.YtbfbgdinhiglaaaGreatMgValB
import Derived.Lib.SmallJoins
import Derived.Shelf.SlIter.Nil
import Derived.Shelf.SortM.Plain
import Derived.Shelf.SortM.SortNone
import Derived.Ground.GgzProg
import Derived.Ground.SlgmProg
import Derived.Test.YtbfbgdinhiglaaaGreatRows
/- Several texts in one: ValBegun, ValRef, ValOrder. -/
/- valueBegun answers true. -/
namespace Go.Proofs.YtbfbgdinhiglaaaGreat.vl
open Go.ChangeShapes Go.WideShapes Go.ChangeAt Go.RowKit
set_option linter.unusedVariables false
set_option linter.unusedSimpArgs false

end Go.Proofs.YtbfbgdinhiglaaaGreat.vl

/- The reference's key of a row: eight, cellKey and Key. -/
namespace Go.Proofs.YtbfbgdinhiglaaaGreat.vl
open Go.ChangeShapes Go.WideShapes Go.ChangeAt Go.RowKit
set_option linter.unusedVariables false
set_option linter.unusedSimpArgs false

end Go.Proofs.YtbfbgdinhiglaaaGreat.vl

/- Of two rows the one that comes ahead has the lesser key. No Go in sight. -/
namespace Go.Proofs.YtbfbgdinhiglaaaGreat.vl
set_option linter.unusedVariables false
set_option linter.unusedSimpArgs false

theorem cmpB_same (l x y : List UInt8) : Lib.compareBytes (l ++ x) (l ++ y) = Lib.compareBytes x y := by
  induction l with
  | nil => rfl
  | cons a l ih =>
    rw [List.cons_append, List.cons_append, Lib.compareBytes, if_neg (UInt8.lt_irrefl a), if_neg (UInt8.lt_irrefl a)]
    exact ih
theorem cmpB_lt {a b : UInt8} (x y : List UInt8) (h : a < b) : Lib.compareBytes (a :: x) (b :: y) = -1 := by rw [Lib.compareBytes, if_pos h]
theorem cmpB_gt {a b : UInt8} (x y : List UInt8) (h : b < a) : Lib.compareBytes (a :: x) (b :: y) = 1 := by
  rw [Lib.compareBytes, if_neg (fun h' => absurd (UInt8.lt_trans h h') (UInt8.lt_irrefl b)), if_pos h]

theorem fold_acc (l : List UInt8) (a : Nat) : l.foldl (fun u b => u * 256 + b.toNat) a = a * 256 ^ l.length + beVal l := by
  induction l generalizing a with
  | nil => simp [beVal]
  | cons b l ih =>
    have e : beVal (b :: l) = (b :: l).foldl (fun u b => u * 256 + b.toNat) 0 := rfl
    rw [e, List.foldl_cons, List.foldl_cons, ih, ih (0 * 256 + b.toNat), List.length_cons, Nat.pow_succ]
    rw [Nat.add_mul, Nat.mul_assoc, Nat.mul_comm 256, Nat.zero_mul, Nat.zero_add]
    omega
theorem beVal_cons (b : UInt8) (l : List UInt8) : beVal (b :: l) = b.toNat * 256 ^ l.length + beVal l := by
  have e : beVal (b :: l) = l.foldl (fun u b => u * 256 + b.toNat) (0 * 256 + b.toNat) := rfl
  rw [e, fold_acc]; simp
theorem cmpB_be (l m x y : List UInt8) (h : l.length = m.length) :
    Lib.compareBytes (l ++ x) (m ++ y) = if beVal l < beVal m then -1 else if beVal m < beVal l then 1 else Lib.compareBytes x y := by
  induction l generalizing m with
  | nil =>
    cases m with
    | nil => simp [beVal]
    | cons b m => simp at h
  | cons a l ih =>
    cases m with
    | nil => simp at h
    | cons b m =>
      have hl : l.length = m.length := by simpa using h
      have b1 := beVal_bound l
      have b2 := beVal_bound m
      rw [List.cons_append, List.cons_append, beVal_cons, beVal_cons]
      rw [hl] at b1 ⊢
      by_cases h1 : a < b
      · have h1' : a.toNat + 1 ≤ b.toNat := UInt8.lt_iff_toNat_lt.1 h1
        have := Nat.mul_le_mul_right (256 ^ m.length) h1'
        rw [Nat.add_mul] at this
        rw [cmpB_lt _ _ h1, if_pos (by omega)]
      · by_cases h2 : b < a
        · have h2' : b.toNat + 1 ≤ a.toNat := UInt8.lt_iff_toNat_lt.1 h2
          have := Nat.mul_le_mul_right (256 ^ m.length) h2'
          rw [Nat.add_mul] at this
          rw [cmpB_gt _ _ h2, if_neg (by omega), if_pos (by omega)]
        · have h3 : a = b := UInt8.le_antisymm (UInt8.not_lt.1 h2) (UInt8.not_lt.1 h1)
          subst h3
          rw [Lib.compareBytes, if_neg h1, if_neg h1, ih m hl]
          simp only [Nat.add_lt_add_iff_left]

theorem pos_of_ne {b : UInt8} (h : b ≠ 0) : (0 : UInt8) < b := by
  rcases Nat.eq_zero_or_pos b.toNat with h0 | h0
  · exact absurd (byte_eq h0) h
  · exact UInt8.lt_iff_toNat_lt.2 h0

theorem cmpB_text (s t x y : List UInt8) :
    Lib.compareBytes (encT s ++ 0 :: 1 :: x) (encT t ++ 0 :: 1 :: y) = if Lib.compareBytes s t = 0 then Lib.compareBytes x y else Lib.compareBytes s t := by
  induction s generalizing t with
  | nil =>
    cases t with
    | nil => simp [encT, Lib.compareBytes]
    | cons b t =>
      rw [encT_cons]
      by_cases hb : b = 0
      · rw [if_pos hb]; simp [encT, Lib.compareBytes]
      · have := pos_of_ne hb
        rw [if_neg hb]; simp [encT, Lib.compareBytes, this]
  | cons a s ih =>
    cases t with
    | nil =>
      rw [encT_cons]
      by_cases ha : a = 0
      · rw [if_pos ha]; simp [encT, Lib.compareBytes]
      · have := pos_of_ne ha
        have h2 : ¬ a < 0 := fun h => absurd (UInt8.lt_trans this h) (UInt8.lt_irrefl 0)
        rw [if_neg ha]; simp [encT, Lib.compareBytes, this, h2]
    | cons b t =>
      rw [encT_cons, encT_cons]
      by_cases hab : a = b
      · subst hab
        rw [List.append_assoc, List.append_assoc, cmpB_same, ih t, Lib.compareBytes, if_neg (UInt8.lt_irrefl a), if_neg (UInt8.lt_irrefl a)]
      · by_cases h1 : a < b
        · have e : Lib.compareBytes (a :: s) (b :: t) = -1 := cmpB_lt _ _ h1
          have hb : b ≠ 0 := fun h => by subst h; exact absurd (UInt8.lt_iff_toNat_lt.1 h1) (Nat.not_lt_zero _)
          rw [e, if_neg (show ¬ ((-1 : Int) = 0) by decide), if_neg hb]
          by_cases ha : a = 0
          · rw [if_pos ha]
            exact cmpB_lt _ _ (pos_of_ne hb)
          · rw [if_neg ha]
            exact cmpB_lt _ _ h1
        · have h2 : b < a := by
            rcases Nat.lt_trichotomy a.toNat b.toNat with h | h | h
            · exact absurd (UInt8.lt_iff_toNat_lt.2 h) h1
            · exact absurd (byte_eq h) hab
            · exact UInt8.lt_iff_toNat_lt.2 h
          have e : Lib.compareBytes (a :: s) (b :: t) = 1 := cmpB_gt _ _ h2
          have ha : a ≠ 0 := fun h => by subst h; exact absurd (UInt8.lt_iff_toNat_lt.1 h2) (Nat.not_lt_zero _)
          rw [e, if_neg (show ¬ ((1 : Int) = 0) by decide), if_neg ha]
          by_cases hb : b = 0
          · rw [if_pos hb]
            exact cmpB_gt _ _ (pos_of_ne ha)
          · rw [if_neg hb]
            exact cmpB_gt _ _ h2

theorem cmpC_of (c d : Cel) : cmpC c d = if ordI c.k d.k = 0 then (if ordI c.n d.n = 0 then Lib.compareBytes c.s.data.toList d.s.data.toList else ordI c.n d.n) else ordI c.k d.k := by
  unfold cmpC cmpV firstNZ firstNZ firstNZ firstNZ
  by_cases h1 : ordI c.k d.k = 0
  · rw [if_pos h1, if_pos h1]
    by_cases h2 : ordI c.n d.n = 0
    · rw [if_pos h2, if_pos h2]
      split
      · rename_i h; exact h.symm
      · rfl
    · rw [if_neg h2, if_neg h2]
  · rw [if_neg h1, if_neg h1]

theorem cmpB_cell {c d : Cel} (hc : c.ok) (hd : d.ok) (wc : c.wf) (wd : d.wf) (x y : List UInt8) :
    Lib.compareBytes (encC c ++ x) (encC d ++ y) = if cmpC c d = 0 then Lib.compareBytes x y else cmpC c d := by
  rw [cmpC_of]
  rcases encC_cases hc with ⟨rfl, e⟩ | ⟨rfl, e⟩ | ⟨rfl, e⟩ | ⟨n, rfl, e⟩ | ⟨s, rfl, hs, e⟩ <;>
  rcases encC_cases hd with ⟨rfl, e'⟩ | ⟨rfl, e'⟩ | ⟨rfl, e'⟩ | ⟨m, rfl, e'⟩ | ⟨t, rfl, ht, e'⟩ <;>
  simp only [e, e', List.cons_append, List.nil_append]
  all_goals try (rw [cmpB_lt _ _ (by decide)]; rfl)
  all_goals try (rw [cmpB_gt _ _ (by decide)]; rfl)
  · exact cmpB_same [0] x y
  · exact cmpB_same [1, 0] x y
  · have := cmpB_same [1] (0 :: x) (1 :: y)
    simp only [List.cons_append, List.nil_append] at this
    rw [this, cmpB_lt _ _ (by decide)]; rfl
  · have := cmpB_same [1] (1 :: x) (0 :: y)
    simp only [List.cons_append, List.nil_append] at this
    rw [this, cmpB_gt _ _ (by decide)]; rfl
  · exact cmpB_same [1, 1] x y
  · obtain ⟨⟨n1, n2⟩, _⟩ := wc
    obtain ⟨⟨m1, m2⟩, _⟩ := wd
    dsimp only at n1 n2 m1 m2 ⊢
    have := cmpB_same [2] (be8 (n + 9223372036854775808).toNat 8 ++ x) (be8 (m + 9223372036854775808).toNat 8 ++ y)
    simp only [List.cons_append, List.nil_append] at this
    rw [this, cmpB_be _ _ _ _ (by rw [be8_len, be8_len]), beVal_be8 _ (by omega), beVal_be8 _ (by omega)]
    have e0 : ordI 2 2 = 0 := by decide
    rw [e0, if_pos rfl]
    unfold ordI
    by_cases h1 : n < m
    · rw [if_pos (by omega), if_pos h1]; rfl
    · rw [if_neg (by omega), if_neg h1]
      by_cases h2 : m < n
      · rw [if_pos (by omega), if_pos h2]; rfl
      · rw [if_neg (by omega), if_neg h2]; rfl
  · have := cmpB_same [3] (encT s.data.toList ++ [0, 1] ++ x) (encT t.data.toList ++ [0, 1] ++ y)
    simp only [List.cons_append, List.nil_append, List.append_assoc] at this ⊢
    rw [this, cmpB_text]
    rfl

/-- OF TWO ROWS THE ONE THAT COMES AHEAD HAS THE LESSER KEY -/
theorem cmpB_rows (a b : List Cel) (ha : ∀ c ∈ a, c.ok ∧ c.wf) (hb : ∀ c ∈ b, c.ok ∧ c.wf) : Lib.compareBytes (encR a) (encR b) = cmpRows a b := by
  induction a generalizing b with
  | nil =>
    cases b with
    | nil => rfl
    | cons d b =>
      have e : encR (d :: b) = encC d ++ encR b := rfl
      rw [e]
      have := encC_ne (hb d (List.mem_cons_self ..)).1
      cases h : encC d with
      | nil => exact absurd h this
      | cons z zs => rfl
  | cons c a ih =>
    have ec : encR (c :: a) = encC c ++ encR a := rfl
    have hc := ha c (List.mem_cons_self ..)
    cases b with
    | nil =>
      rw [ec]
      cases h : encC c with
      | nil => exact absurd h (encC_ne hc.1)
      | cons z zs => rfl
    | cons d b =>
      have ed : encR (d :: b) = encC d ++ encR b := rfl
      have hd := hb d (List.mem_cons_self ..)
      rw [ec, ed, cmpB_cell hc.1 hd.1 hc.2 hd.2, ih b (fun x hx => ha x (List.mem_cons_of_mem _ hx)) (fun x hx => hb x (List.mem_cons_of_mem _ hx)), cmpRows]
theorem cmpB_zero : ∀ {a b : List UInt8}, Lib.compareBytes a b = 0 ↔ a = b
  | [], [] => by simp [Lib.compareBytes]
  | [], _ :: _ => by simp [Lib.compareBytes]
  | _ :: _, [] => by simp [Lib.compareBytes]
  | a :: x, b :: y => by
    rw [Lib.compareBytes]
    by_cases h1 : a < b
    · rw [if_pos h1]
      exact ⟨fun h => absurd h (by decide), fun h => by cases h; exact absurd h1 (UInt8.lt_irrefl a)⟩
    · rw [if_neg h1]
      by_cases h2 : b < a
      · rw [if_pos h2]
        exact ⟨fun h => absurd h (by decide), fun h => by cases h; exact absurd h2 (UInt8.lt_irrefl a)⟩
      · rw [if_neg h2]
        have h3 : a = b := UInt8.le_antisymm (UInt8.not_lt.1 h2) (UInt8.not_lt.1 h1)
        rw [cmpB_zero, h3]; simp
theorem encR_inj {a b : List Cel} (ha : ∀ c ∈ a, c.ok ∧ c.wf) (hb : ∀ c ∈ b, c.ok ∧ c.wf) (h : encR a = encR b) : a = b := by
  obtain ⟨r2, e1, e2⟩ := encR_split a b [] ha hb (by rw [List.append_nil]; exact h)
  cases r2 with
  | nil => rw [e1, List.append_nil]
  | cons d r2 =>
    have hd := hb d (by rw [e1]; simp)
    have e3 : encR (d :: r2) = encC d ++ encR r2 := rfl
    rw [e3] at e2
    exact absurd (List.append_eq_nil_iff.1 e2.symm).1 (encC_ne hd.1)
end Go.Proofs.YtbfbgdinhiglaaaGreat.vl
/- Several texts in one: Iter. -/
/- The library sorts the keys of a map: the contracts on slices.Sorted over maps.Keys, laid at this program. -/
namespace Go.Proofs
open Go.RowKit Go.Maps Go.Sort Go.Shelf
def Tryz.keys54_ren : Go.Shelf.Ren := ⟨fun | 7 => 54 | 10 => 103 | n => n, fun | 23 => 94 | 26 => 9 | 3 => 27 | 28 => 100 | 0 => 0 | 27 => 99 | 33 => 139 | 4 => 4 | n => n, fun | n => n⟩
theorem Tryz.keys54 : Go.Proofs.SlLaysZ.n7 Tryz.prog Tryz.keys54_ren := {
  mixed := by kernel_rfl
  f7 := ⟨Tryz.f54.name, by decide, Tryz.func54.trans (congrArg some (by kernel_rfl))⟩
  f10 := ⟨Tryz.f103.name, by decide, Tryz.func103.trans (congrArg some (by kernel_rfl))⟩
  t0 := Tryz.underlying0
  a0 := Tryz.isAgg0
  z0 := Tryz.sizeOf0
  v0 := Tryz.zeroValue0
  t4 := Tryz.underlying4
  a4 := Tryz.isAgg4
  z4 := Tryz.sizeOf4
  v4 := Tryz.zeroValue4
  t23 := Tryz.underlying94
  a23 := Tryz.isAgg94
  z23 := Tryz.sizeOf94
  v23 := Tryz.zeroValue94
  t26 := Tryz.underlying9
  a26 := Tryz.isAgg9
  z26 := Tryz.sizeOf9
  v26 := Tryz.zeroValue9
  t27 := Tryz.underlying99
  a27 := Tryz.isAgg99
  z27 := Tryz.sizeOf99
  v27 := Tryz.zeroValue99
  t28 := Tryz.underlying100
  a28 := Tryz.isAgg100
  z28 := Tryz.sizeOf100
  v28 := Tryz.zeroValue100
  t33 := Tryz.underlying139
  a33 := Tryz.isAgg139
  z33 := Tryz.sizeOf139
  v33 := Tryz.zeroValue139 }
def Tryz.sorted53_ren : Go.Shelf.Ren := ⟨fun | 6 => 53 | 8 => 101 | 9 => 102 | 11 => 140 | 13 => 142 | 12 => 141 | 23 => 173 | 24 => 174 | 14 => 164 | 15 => 165 | 16 => 166 | 17 => 167 | 18 => 168 | 19 => 169 | 20 => 170 | 21 => 171 | 22 => 172 | 25 => 178 | 26 => 179 | 27 => 180 | 28 => 181 | 29 => 182 | 30 => 183 | 31 => 186 | n => n, fun | 26 => 9 | 28 => 100 | 24 => 87 | 0 => 0 | 3 => 3 | 37 => 161 | 48 => 198 | 50 => 188 | 4 => 4 | 40 => 191 | 39 => 190 | 45 => 114 | 5 => 5 | 9 => 9 | 51 => 201 | 55 => 205 | 57 => 208 | 58 => 209 | 33 => 139 | n => n, fun | n => n⟩
theorem Tryz.sorted53 : Go.Proofs.SlLaysZ.n6 Tryz.prog Tryz.sorted53_ren := {
  mixed := by kernel_rfl
  f6 := ⟨Tryz.f53.name, by decide, Tryz.func53.trans (congrArg some (by kernel_rfl))⟩
  f8 := ⟨Tryz.f101.name, by decide, Tryz.func101.trans (congrArg some (by kernel_rfl))⟩
  f11 := ⟨Tryz.f140.name, by decide, Tryz.func140.trans (congrArg some (by kernel_rfl))⟩
  t0 := Tryz.underlying0
  a0 := Tryz.isAgg0
  z0 := Tryz.sizeOf0
  v0 := Tryz.zeroValue0
  t24 := Tryz.underlying87
  a24 := Tryz.isAgg87
  z24 := Tryz.sizeOf87
  v24 := Tryz.zeroValue87
  t26 := Tryz.underlying9
  a26 := Tryz.isAgg9
  z26 := Tryz.sizeOf9
  v26 := Tryz.zeroValue9
  t28 := Tryz.underlying100
  a28 := Tryz.isAgg100
  z28 := Tryz.sizeOf100
  v28 := Tryz.zeroValue100
  i26 := by kernel_rfl }
def Tryz.sort102_ren : Go.Shelf.Ren := ⟨fun | 6 => 102 | 8 => 142 | 9 => 141 | 19 => 173 | 20 => 174 | 21 => 164 | 22 => 165 | 23 => 166 | 24 => 167 | 25 => 168 | 26 => 169 | 27 => 170 | 28 => 171 | 29 => 172 | 36 => 178 | 31 => 179 | 32 => 180 | 37 => 181 | 38 => 182 | 39 => 183 | 41 => 186 | n => n, fun | 27 => 87 | 29 => 9 | 3 => 3 | 32 => 161 | 26 => 87 | 0 => 0 | 44 => 198 | 46 => 188 | 4 => 4 | 36 => 191 | 35 => 190 | 41 => 114 | 5 => 5 | 9 => 9 | 53 => 201 | 57 => 205 | 63 => 208 | 64 => 209 | n => n, fun | n => n⟩
theorem Tryz.sort102 : Go.Proofs.SlLaysM.n6 Tryz.prog Tryz.sort102_ren := {
  mixed := by kernel_rfl
  f6 := ⟨Tryz.f102.name, by decide, Tryz.func102.trans (congrArg some (by kernel_rfl))⟩
  f8 := Tryz.func142.trans (congrArg some (by kernel_rfl))
  f9 := ⟨Tryz.f141.name, by decide, Tryz.func141.trans (congrArg some (by kernel_rfl))⟩
  f19 := Tryz.func173.trans (congrArg some (by kernel_rfl))
  f20 := Tryz.func174.trans (congrArg some (by kernel_rfl))
  f21 := ⟨Tryz.f164.name, by decide, Tryz.func164.trans (congrArg some (by kernel_rfl))⟩
  f22 := ⟨Tryz.f165.name, by decide, Tryz.func165.trans (congrArg some (by kernel_rfl))⟩
  f23 := ⟨Tryz.f166.name, by decide, Tryz.func166.trans (congrArg some (by kernel_rfl))⟩
  f24 := ⟨Tryz.f167.name, by decide, Tryz.func167.trans (congrArg some (by kernel_rfl))⟩
  f25 := ⟨Tryz.f168.name, by decide, Tryz.func168.trans (congrArg some (by kernel_rfl))⟩
  f26 := ⟨Tryz.f169.name, by decide, Tryz.func169.trans (congrArg some (by kernel_rfl))⟩
  f27 := ⟨Tryz.f170.name, by decide, Tryz.func170.trans (congrArg some (by kernel_rfl))⟩
  f28 := ⟨Tryz.f171.name, by decide, Tryz.func171.trans (congrArg some (by kernel_rfl))⟩
  f29 := ⟨Tryz.f172.name, by decide, Tryz.func172.trans (congrArg some (by kernel_rfl))⟩
  f31 := Tryz.func179.trans (congrArg some (by kernel_rfl))
  f32 := Tryz.func180.trans (congrArg some (by kernel_rfl))
  f36 := ⟨Tryz.f178.name, by decide, Tryz.func178.trans (congrArg some (by kernel_rfl))⟩
  f37 := ⟨Tryz.f181.name, by decide, Tryz.func181.trans (congrArg some (by kernel_rfl))⟩
  f38 := ⟨Tryz.f182.name, by decide, Tryz.func182.trans (congrArg some (by kernel_rfl))⟩
  f39 := ⟨Tryz.f183.name, by decide, Tryz.func183.trans (congrArg some (by kernel_rfl))⟩
  f41 := ⟨Tryz.f186.name, by decide, Tryz.func186.trans (congrArg some (by kernel_rfl))⟩
  t0 := Tryz.underlying0
  a0 := Tryz.isAgg0
  z0 := Tryz.sizeOf0
  v0 := Tryz.zeroValue0
  t3 := Tryz.underlying3
  a3 := Tryz.isAgg3
  z3 := Tryz.sizeOf3
  v3 := Tryz.zeroValue3
  t4 := Tryz.underlying4
  a4 := Tryz.isAgg4
  z4 := Tryz.sizeOf4
  v4 := Tryz.zeroValue4
  t5 := Tryz.underlying5
  a5 := Tryz.isAgg5
  z5 := Tryz.sizeOf5
  v5 := Tryz.zeroValue5
  t9 := Tryz.underlying9
  a9 := Tryz.isAgg9
  z9 := Tryz.sizeOf9
  v9 := Tryz.zeroValue9
  t26 := Tryz.underlying87
  a26 := Tryz.isAgg87
  z26 := Tryz.sizeOf87
  v26 := Tryz.zeroValue87
  t27 := Tryz.underlying87
  a27 := Tryz.isAgg87
  z27 := Tryz.sizeOf87
  v27 := Tryz.zeroValue87
  t29 := Tryz.underlying9
  a29 := Tryz.isAgg9
  z29 := Tryz.sizeOf9
  v29 := Tryz.zeroValue9
  t32 := Tryz.underlying161
  a32 := Tryz.isAgg161
  z32 := Tryz.sizeOf161
  v32 := Tryz.zeroValue161
  t35 := Tryz.underlying190
  a35 := Tryz.isAgg190
  z35 := Tryz.sizeOf190
  v35 := Tryz.zeroValue190
  t36 := Tryz.underlying191
  a36 := Tryz.isAgg191
  z36 := Tryz.sizeOf191
  v36 := Tryz.zeroValue191
  t41 := Tryz.underlying114
  a41 := Tryz.isAgg114
  z41 := Tryz.sizeOf114
  v41 := Tryz.zeroValue114
  t44 := Tryz.underlying198
  a44 := Tryz.isAgg198
  z44 := Tryz.sizeOf198
  v44 := Tryz.zeroValue198
  t46 := Tryz.underlying188
  a46 := Tryz.isAgg188
  z46 := Tryz.sizeOf188
  v46 := Tryz.zeroValue188
  t53 := Tryz.underlying201
  a53 := Tryz.isAgg201
  z53 := Tryz.sizeOf201
  v53 := Tryz.zeroValue201
  t57 := Tryz.underlying205
  a57 := Tryz.isAgg205
  z57 := Tryz.sizeOf205
  v57 := Tryz.zeroValue205
  t63 := Tryz.underlying208
  a63 := Tryz.isAgg208
  z63 := Tryz.sizeOf208
  v63 := Tryz.zeroValue208
  t64 := Tryz.underlying209
  a64 := Tryz.isAgg209
  z64 := Tryz.sizeOf209
  v64 := Tryz.zeroValue209 }
def Tryz.keys134_ren : Go.Shelf.Ren := ⟨fun | 7 => 134 | 10 => 163 | n => n, fun | 23 => 84 | 26 => 9 | 3 => 3 | 28 => 100 | 0 => 0 | 27 => 99 | 33 => 139 | 4 => 4 | n => n, fun | n => n⟩
theorem Tryz.keys134 : Go.Proofs.SlLaysZ.n7 Tryz.prog Tryz.keys134_ren := {
  mixed := by kernel_rfl
  f7 := ⟨Tryz.f134.name, by decide, Tryz.func134.trans (congrArg some (by kernel_rfl))⟩
  f10 := ⟨Tryz.f163.name, by decide, Tryz.func163.trans (congrArg some (by kernel_rfl))⟩
  t0 := Tryz.underlying0
  a0 := Tryz.isAgg0
  z0 := Tryz.sizeOf0
  v0 := Tryz.zeroValue0
  t4 := Tryz.underlying4
  a4 := Tryz.isAgg4
  z4 := Tryz.sizeOf4
  v4 := Tryz.zeroValue4
  t23 := Tryz.underlying84
  a23 := Tryz.isAgg84
  z23 := Tryz.sizeOf84
  v23 := Tryz.zeroValue84
  t26 := Tryz.underlying9
  a26 := Tryz.isAgg9
  z26 := Tryz.sizeOf9
  v26 := Tryz.zeroValue9
  t27 := Tryz.underlying99
  a27 := Tryz.isAgg99
  z27 := Tryz.sizeOf99
  v27 := Tryz.zeroValue99
  t28 := Tryz.underlying100
  a28 := Tryz.isAgg100
  z28 := Tryz.sizeOf100
  v28 := Tryz.zeroValue100
  t33 := Tryz.underlying139
  a33 := Tryz.isAgg139
  z33 := Tryz.sizeOf139
  v33 := Tryz.zeroValue139 }
theorem Tryz.sorts53 (m : Nat) : AnyZ.SortsIn Tryz.prog Tryz.sorted53_ren Fence.wide m :=
  ⟨fun blk off cap ss W hH hblk hsz => callsIn_wide.2 (AnyM.slices_Sort_string Tryz.sort102 blk off cap ss W hH hblk hsz),
   fun p cap W => callsIn_wide.2 (AnyM.slices_Sort_string_none Tryz.sort102 p cap W)⟩

theorem Tryz.maps_Keys_54 (mb : Option Nat) (W : World) : CallsIn Fence.wide 5 Tryz.prog 54 #[.map mb] W fun e w' => e = .returned (.func (.func 103) #[] #[.pointer (some ⟨W.heap.size, 0, none⟩)]) ∧ w' = W.alloc (.cells #[.map mb] 94) :=
  AnyZ.keys_in Tryz.keys54 Fence.wide 5 trivial rfl mb W

set_option maxHeartbeats 1000000 in
theorem Tryz.slices_Sorted_keys_53_54 {H : Type} (b nn : Nat) (D0 : DataW H) (R : Value → Option (DataW H × List MemPlace)) (w : World) (hown : w.ownsMap Tryz.prog 9 R b nn D0) (hmax : Maps.size D0 ≤ maxLen) (hbytes : Maps.size D0 * 16 ≤ 140737488355328) :
    CallsIn Fence.wide 5 Tryz.prog 53 #[.func (.func 103) #[] #[.pointer (some ⟨w.heap.size, 0, none⟩)]] (w.alloc (.cells #[.map (some b)] 94)) fun e w' => ∃ (v : Value) (ss : List (List UInt8)), e = .returned v ∧ ss.Perm (strKeys D0) ∧
      w'.ownsRow (w.alloc (.cells #[.map (some b)] 94)).heap.size 9 1 v ss.length ((ss.mergeSort (fun x y => decide (x ≤ y))).map encStr) ∧ (v = .slice none 0 0 ↔ ss = []) ∧ Below (w.alloc (.cells #[.map (some b)] 94)).heap.size (w.alloc (.cells #[.map (some b)] 94)) w' := by
  have hbl := hown.lt
  have hseq : SeqGives Fence.wide 2 Tryz.prog 103 #[.pointer (some ⟨w.heap.size, 0, none⟩)] encStr (fun ss => ss.Perm (strKeys D0)) (Maps.size D0) (w.alloc (.cells #[.map (some b)] 94)) :=
    AnyZ.keys_gives (ρ := Tryz.keys54_ren) { Tryz.keys54 with } Fence.wide _ trivial rfl (by omega) w.heap.size b nn D0 _ (by simp) (by simp) (by
      obtain ⟨es, clock, hb, Ft, hs, hD⟩ := hown
      exact ⟨es, clock, (Below.heap_alloc _ _ b hbl).trans hb, Ft, hs, hD⟩)
  exact AnyZ.sorted_in Tryz.sorted53 Fence.wide 5 trivial trivial trivial trivial rfl (by omega) (Tryz.sorts53 _) (enters_of Tryz.func102 (by kernel_rfl) rfl) 103 #[.pointer (some ⟨w.heap.size, 0, none⟩)] trivial (enters_of Tryz.func103 (by kernel_rfl) rfl) _ _ hmax hbytes _ hseq

theorem Tryz.maps_Keys_134 (mb : Option Nat) (W : World) : CallsIn Fence.wide 5 Tryz.prog 134 #[.map mb] W fun e w' => e = .returned (.func (.func 163) #[] #[.pointer (some ⟨W.heap.size, 0, none⟩)]) ∧ w' = W.alloc (.cells #[.map mb] 84) :=
  AnyZ.keys_in Tryz.keys134 Fence.wide 5 trivial rfl mb W

set_option maxHeartbeats 1000000 in
theorem Tryz.slices_Sorted_keys_53_134 {H : Type} (b nn : Nat) (D0 : DataW H) (R : Value → Option (DataW H × List MemPlace)) (w : World) (hown : w.ownsMap Tryz.prog 9 R b nn D0) (hmax : Maps.size D0 ≤ maxLen) (hbytes : Maps.size D0 * 16 ≤ 140737488355328) :
    CallsIn Fence.wide 5 Tryz.prog 53 #[.func (.func 163) #[] #[.pointer (some ⟨w.heap.size, 0, none⟩)]] (w.alloc (.cells #[.map (some b)] 84)) fun e w' => ∃ (v : Value) (ss : List (List UInt8)), e = .returned v ∧ ss.Perm (strKeys D0) ∧
      w'.ownsRow (w.alloc (.cells #[.map (some b)] 84)).heap.size 9 1 v ss.length ((ss.mergeSort (fun x y => decide (x ≤ y))).map encStr) ∧ (v = .slice none 0 0 ↔ ss = []) ∧ Below (w.alloc (.cells #[.map (some b)] 84)).heap.size (w.alloc (.cells #[.map (some b)] 84)) w' := by
  have hbl := hown.lt
  have hseq : SeqGives Fence.wide 2 Tryz.prog 163 #[.pointer (some ⟨w.heap.size, 0, none⟩)] encStr (fun ss => ss.Perm (strKeys D0)) (Maps.size D0) (w.alloc (.cells #[.map (some b)] 84)) :=
    AnyZ.keys_gives (ρ := Tryz.keys134_ren) { Tryz.keys134 with } Fence.wide _ trivial rfl (by omega) w.heap.size b nn D0 _ (by simp) (by simp) (by
      obtain ⟨es, clock, hb, Ft, hs, hD⟩ := hown
      exact ⟨es, clock, (Below.heap_alloc _ _ b hbl).trans hb, Ft, hs, hD⟩)
  exact AnyZ.sorted_in Tryz.sorted53 Fence.wide 5 trivial trivial trivial trivial rfl (by omega) (Tryz.sorts53 _) (enters_of Tryz.func102 (by kernel_rfl) rfl) 163 #[.pointer (some ⟨w.heap.size, 0, none⟩)] trivial (enters_of Tryz.func163 (by kernel_rfl) rfl) _ _ hmax hbytes _ hseq

end Go.Proofs
