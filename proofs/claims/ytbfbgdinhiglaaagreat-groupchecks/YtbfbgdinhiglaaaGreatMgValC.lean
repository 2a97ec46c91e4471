/- Several texts in one: ValBegun, ValRef, ValOrder. -/
import Derived.Test.YtbfbgdinhiglaaaGreatMgValB
import Derived.Lib.SmallJoins
/- valueBegun answers true. -/
namespace Go.Proofs.YtbfbgdinhiglaaaGreat.vl
open Go.ChangeShapes Go.WideShapes Go.ChangeAt Go.RowKit
set_option linter.unusedVariables false
set_option linter.unusedSimpArgs false

def R4 : List Cel := [⟨2, -1, ⟨#[]⟩⟩, ⟨3, 0, ⟨#[97, 0]⟩⟩, ⟨1, 1, ⟨#[]⟩⟩, ⟨0, 0, ⟨#[]⟩⟩]
theorem R4_ok : rowOk R4 := by
  refine ⟨by decide, ?_⟩
  intro c hc
  simp only [R4, List.mem_cons, List.not_mem_nil, or_false] at hc
  rcases hc with rfl | rfl | rfl | rfl
  · exact ⟨int_ok _, wf0 _ _ (by decide) (by decide)⟩
  · exact ⟨chk_ok _ _ _ (by decide), wf3 (by decide)⟩
  · exact ⟨chk_ok _ _ _ (by decide), wf0 _ _ (by decide) (by decide)⟩
  · exact ⟨chk_ok _ _ _ (by decide), wf0 _ _ (by decide) (by decide)⟩
theorem row4 (w : World) (b : Nat) (h0 : w.cell? ⟨b, 0, none⟩ = some (.int .i64 2)) (h1 : w.cell? ⟨b, 1, none⟩ = some (.int .i64 (-1))) (h2 : w.cell? ⟨b, 2, none⟩ = some (.string ⟨#[]⟩))
    (h3 : w.cell? ⟨b, 3, none⟩ = some (.int .i64 3)) (h4 : w.cell? ⟨b, 4, none⟩ = some (.int .i64 0)) (h5 : w.cell? ⟨b, 5, none⟩ = some (.string ⟨#[97, 0]⟩))
    (h6 : w.cell? ⟨b, 6, none⟩ = some (.int .i64 1)) (h7 : w.cell? ⟨b, 7, none⟩ = some (.int .i64 1)) (h8 : w.cell? ⟨b, 8, none⟩ = some (.string ⟨#[]⟩))
    (h9 : w.cell? ⟨b, 9, none⟩ = some (.int .i64 0)) (h10 : w.cell? ⟨b, 10, none⟩ = some (.int .i64 0)) (h11 : w.cell? ⟨b, 11, none⟩ = some (.string ⟨#[]⟩)) : rowAt w (some ⟨b, 0, none⟩) R4 := by
  intro i hi
  refine ⟨b, 0, rfl, ?_⟩
  match i, hi with
  | 0, _ => exact ⟨h0, h1, h2⟩
  | 1, _ => exact ⟨h3, h4, h5⟩
  | 2, _ => exact ⟨h6, h7, h8⟩
  | 3, _ => exact ⟨h9, h10, h11⟩
theorem begun_cmp (w : World) : Calls Tryz.prog 124 #[.agg #[.int .i64 2, .int .i64 1, .string ⟨#[]⟩], .agg #[.int .i64 2, .int .i64 2, .string ⟨#[]⟩]] w fun e w' => e = .returned (.int .i64 (-1)) ∧ Below w.heap.size w w' :=
  (compare_any 2 1 ⟨#[]⟩ 2 2 ⟨#[]⟩ w).mono fun e w' ⟨he, hb⟩ => ⟨he.trans (ret_int (by decide)), hb⟩
theorem begun_rows (a : Option Addr) (c1 c2 : Nat) (w : World) (h : rowAt w a R4) : Calls Tryz.prog 76 #[.slice a 4 c1, .slice a 2 c2] w fun e w' => e = .returned (.int .i64 1) ∧ Below w.heap.size w w' :=
  (rows_any a a c1 c2 R4 (R4.take 2) w h (rowAt_take h 2) (by decide) (by decide)).mono fun e w' ⟨he, hb⟩ => ⟨he.trans (ret_int (by decide)), hb⟩
theorem begun_same (a1 a2 : Option Addr) (c1 c2 : Nat) (w : World) (h1 : rowAt w a1 R4) (h2 : rowAt w a2 R4) : Calls Tryz.prog 34 #[.slice a1 4 c1, .slice a2 4 c2] w fun e w' => e = .returned (.bool true) ∧ Below w.heap.size w w' :=
  (same_any a1 a2 c1 c2 R4 R4 w h1 h2 (by decide) (by decide)).mono fun e w' ⟨he, hb⟩ => ⟨he.trans (ret_bool (by simp)), hb⟩
theorem begun_key (a : Option Addr) (cap : Nat) (w : World) (hr : rowAt w a R4) : Calls Tryz.prog 51 #[.slice a 4 cap] w fun e w' => e = .returned (.tuple #[.string (keyS R4), .int .i64 0]) ∧ Below w.heap.size w w' :=
  key_ok a cap R4 w hr R4_ok
theorem begun_back (w : World) : Calls Tryz.prog 55 #[.string (keyS R4)] w fun e w' => (∃ ad cap, e = .returned (.tuple #[.slice ad 4 cap, .int .i64 0]) ∧ rowAt w' ad R4) ∧ Below w.heap.size w w' :=
  (back_yes (keyS R4) R4 w (Nat.le_trans (keyS_len R4_ok) (by unfold maxLen; omega)) R4_ok (keyS_ok R4_ok).symm).mono fun e w' ⟨⟨ad, cap, he, ho⟩, hb⟩ => ⟨⟨ad, cap, he, ownV_row ho⟩, hb⟩

theorem num_any (n : Int) (w : World) : Calls Tryz.prog 31 #[.int .i64 n] w fun e w' => e = .returned (.agg #[.int .i64 2, .int .i64 n, .string ⟨#[]⟩]) ∧ Below w.heap.size w w' := by
  go_enter Tryz.func31, Tryz.ntmps31
  go_wp2
  exact bodyPost_ret (v := .agg #[.int .i64 2, .int .i64 n, .string ⟨#[]⟩]) (by simp [results, Tryz.results31, go_sem]) rfl ⟨rfl, by repeat (first | exact Below.refl _ _ | apply Below.drew | (refine Below.setCell ?_ (by simp) _) | (refine Below.alloc ?_ (by simp <;> omega) _))⟩
end Go.Proofs.YtbfbgdinhiglaaaGreat.vl

/- The reference's key of a row: eight, cellKey and Key. -/
namespace Go.Proofs.YtbfbgdinhiglaaaGreat.vl
open Go.ChangeShapes Go.WideShapes Go.ChangeAt Go.RowKit
set_option linter.unusedVariables false
set_option linter.unusedSimpArgs false

/-- 'string([]byte{b})' -/
theorem conv_new (w : World) (B : Nat) (hB : w.heap.size = B) (b : UInt8) : (convert 136 9 (.slice (some ⟨B, 0, none⟩) 1 1)).run Tryz.prog (w.alloc (.cells #[.int .u8 (b.toNat : Int)] 5)) = .ok (.string ⟨#[b]⟩) (w.alloc (.cells #[.int .u8 (b.toNat : Int)] 5)) := by
  subst hB
  exact run_convert_bytes_back (w.alloc (.cells #[.int .u8 (b.toNat : Int)] 5)) 136 9 5 ⟨w.heap.size, 0, none⟩ 1 [b] Tryz.underlying136 Tryz.underlying5 Tryz.underlying9 (fun j hj => by
    have : j = 0 := by simp at hj; omega
    subst this
    simp [Addr.add])

theorem conv_lit (w : World) (B : Nat) (hB : w.heap.size = B) (x : Int) (b : UInt8) (hx : (b.toNat : Int) = x) : (convert 136 9 (.slice (some ⟨B, 0, none⟩) 1 1)).run Tryz.prog (w.alloc (.cells #[.int .u8 x] 5)) = .ok (.string ⟨#[b]⟩) (w.alloc (.cells #[.int .u8 x] 5)) := by
  subst hx; exact conv_new w B hB b
theorem byteAt_int (u j : Nat) : ((u : Int) / 2 ^ (56 - 8 * j) % 256) = ((byteAt u j).toNat : Int) := by
  have := byteAt_eq u j
  unfold byteV at this
  injection this

theorem str_push (a : ByteArray) (l : List UInt8) (h : a = ⟨l.toArray⟩) (b : UInt8) : a ++ (⟨#[b]⟩ : ByteArray) = ⟨(l ++ [b]).toArray⟩ := by
  subst h
  apply str_eq
  rw [Joins.data_append]

theorem str_cons (b : UInt8) (l : List UInt8) : (⟨#[b]⟩ : ByteArray) ++ (⟨l.toArray⟩ : ByteArray) = ⟨(b :: l).toArray⟩ := by
  apply str_eq
  rw [Joins.data_append]
  rfl
theorem str_app (l m : List UInt8) : (⟨l.toArray⟩ : ByteArray) ++ (⟨m.toArray⟩ : ByteArray) = ⟨(l ++ m).toArray⟩ := by
  apply str_eq
  rw [Joins.data_append]
theorem extract_one (s : ByteArray) (k : Nat) (h : k < s.size) : s.extract k (k + 1) = ⟨#[s[k]]⟩ := by
  apply str_eq
  have h1 : s.data.toList.drop k = s[k] :: s.data.toList.drop (k + 1) := drop_cons s k h
  simp only [ByteArray.data_extract, Array.toList_extract]
  rw [List.extract_eq_take_drop, h1]
  simp
theorem ret_str {a b : ByteArray} (h : a = b) : Ending.returned (.string a) = .returned (.string b) := by rw [h]

end Go.Proofs.YtbfbgdinhiglaaaGreat.vl

/- Of two rows the one that comes ahead has the lesser key. No Go in sight. -/
namespace Go.Proofs.YtbfbgdinhiglaaaGreat.vl
set_option linter.unusedVariables false
set_option linter.unusedSimpArgs false

theorem cmpB_same (l x y : List UInt8) : Lib.compareBytes (l ++ x) (l ++ y) = Lib.compareBytes x y := by
  induction l with
  | nil => rfl
  | cons a l ih =>
    rw [List.cons_append, List.cons_append, Lib.compareBytes, if_neg (UInt8.lt_irrefl a), if_neg (UInt8.lt_irrefl a)]
    exact ih
theorem cmpB_lt {a b : UInt8} (x y : List UInt8) (h : a < b) : Lib.compareBytes (a :: x) (b :: y) = -1 := by rw [Lib.compareBytes, if_pos h]
theorem cmpB_gt {a b : UInt8} (x y : List UInt8) (h : b < a) : Lib.compareBytes (a :: x) (b :: y) = 1 := by
  rw [Lib.compareBytes, if_neg (fun h' => absurd (UInt8.lt_trans h h') (UInt8.lt_irrefl b)), if_pos h]

theorem fold_acc (l : List UInt8) (a : Nat) : l.foldl (fun u b => u * 256 + b.toNat) a = a * 256 ^ l.length + beVal l := by
  induction l generalizing a with
  | nil => simp [beVal]
  | cons b l ih =>
    have e : beVal (b :: l) = (b :: l).foldl (fun u b => u * 256 + b.toNat) 0 := rfl
    rw [e, List.foldl_cons, List.foldl_cons, ih, ih (0 * 256 + b.toNat), List.length_cons, Nat.pow_succ]
    rw [Nat.add_mul, Nat.mul_assoc, Nat.mul_comm 256, Nat.zero_mul, Nat.zero_add]
    omega
theorem beVal_cons (b : UInt8) (l : List UInt8) : beVal (b :: l) = b.toNat * 256 ^ l.length + beVal l := by
  have e : beVal (b :: l) = l.foldl (fun u b => u * 256 + b.toNat) (0 * 256 + b.toNat) := rfl
  rw [e, fold_acc]; simp
theorem cmpB_be (l m x y : List UInt8) (h : l.length = m.length) :
    Lib.compareBytes (l ++ x) (m ++ y) = if beVal l < beVal m then -1 else if beVal m < beVal l then 1 else Lib.compareBytes x y := by
  induction l generalizing m with
  | nil =>
    cases m with
    | nil => simp [beVal]
    | cons b m => simp at h
  | cons a l ih =>
    cases m with
    | nil => simp at h
    | cons b m =>
      have hl : l.length = m.length := by simpa using h
      have b1 := beVal_bound l
      have b2 := beVal_bound m
      rw [List.cons_append, List.cons_append, beVal_cons, beVal_cons]
      rw [hl] at b1 ⊢
      by_cases h1 : a < b
      · have h1' : a.toNat + 1 ≤ b.toNat := UInt8.lt_iff_toNat_lt.1 h1
        have := Nat.mul_le_mul_right (256 ^ m.length) h1'
        rw [Nat.add_mul] at this
        rw [cmpB_lt _ _ h1, if_pos (by omega)]
      · by_cases h2 : b < a
        · have h2' : b.toNat + 1 ≤ a.toNat := UInt8.lt_iff_toNat_lt.1 h2
          have := Nat.mul_le_mul_right (256 ^ m.length) h2'
          rw [Nat.add_mul] at this
          rw [cmpB_gt _ _ h2, if_neg (by omega), if_pos (by omega)]
        · have h3 : a = b := UInt8.le_antisymm (UInt8.not_lt.1 h2) (UInt8.not_lt.1 h1)
          subst h3
          rw [Lib.compareBytes, if_neg h1, if_neg h1, ih m hl]
          simp only [Nat.add_lt_add_iff_left]

theorem pos_of_ne {b : UInt8} (h : b ≠ 0) : (0 : UInt8) < b := by
  rcases Nat.eq_zero_or_pos b.toNat with h0 | h0
  · exact absurd (byte_eq h0) h
  · exact UInt8.lt_iff_toNat_lt.2 h0

theorem cmpB_text (s t x y : List UInt8) :
    Lib.compareBytes (encT s ++ 0 :: 1 :: x) (encT t ++ 0 :: 1 :: y) = if Lib.compareBytes s t = 0 then Lib.compareBytes x y else Lib.compareBytes s t := by
  induction s generalizing t with
  | nil =>
    cases t with
    | nil => simp [encT, Lib.compareBytes]
    | cons b t =>
      rw [encT_cons]
      by_cases hb : b = 0
      · rw [if_pos hb]; simp [encT, Lib.compareBytes]
      · have := pos_of_ne hb
        rw [if_neg hb]; simp [encT, Lib.compareBytes, this]
  | cons a s ih =>
    cases t with
    | nil =>
      rw [encT_cons]
      by_cases ha : a = 0
      · rw [if_pos ha]; simp [encT, Lib.compareBytes]
      · have := pos_of_ne ha
        have h2 : ¬ a < 0 := fun h => absurd (UInt8.lt_trans this h) (UInt8.lt_irrefl 0)
        rw [if_neg ha]; simp [encT, Lib.compareBytes, this, h2]
    | cons b t =>
      rw [encT_cons, encT_cons]
      by_cases hab : a = b
      · subst hab
        rw [List.append_assoc, List.append_assoc, cmpB_same, ih t, Lib.compareBytes, if_neg (UInt8.lt_irrefl a), if_neg (UInt8.lt_irrefl a)]
      · by_cases h1 : a < b
        · have e : Lib.compareBytes (a :: s) (b :: t) = -1 := cmpB_lt _ _ h1
          have hb : b ≠ 0 := fun h => by subst h; exact absurd (UInt8.lt_iff_toNat_lt.1 h1) (Nat.not_lt_zero _)
          rw [e, if_neg (show ¬ ((-1 : Int) = 0) by decide), if_neg hb]
          by_cases ha : a = 0
          · rw [if_pos ha]
            exact cmpB_lt _ _ (pos_of_ne hb)
          · rw [if_neg ha]
            exact cmpB_lt _ _ h1
        · have h2 : b < a := by
            rcases Nat.lt_trichotomy a.toNat b.toNat with h | h | h
            · exact absurd (UInt8.lt_iff_toNat_lt.2 h) h1
            · exact absurd (byte_eq h) hab
            · exact UInt8.lt_iff_toNat_lt.2 h
          have e : Lib.compareBytes (a :: s) (b :: t) = 1 := cmpB_gt _ _ h2
          have ha : a ≠ 0 := fun h => by subst h; exact absurd (UInt8.lt_iff_toNat_lt.1 h2) (Nat.not_lt_zero _)
          rw [e, if_neg (show ¬ ((1 : Int) = 0) by decide), if_neg ha]
          by_cases hb : b = 0
          · rw [if_pos hb]
            exact cmpB_gt _ _ (pos_of_ne ha)
          · rw [if_neg hb]
            exact cmpB_gt _ _ h2

theorem cmpC_of (c d : Cel) : cmpC c d = if ordI c.k d.k = 0 then (if ordI c.n d.n = 0 then Lib.compareBytes c.s.data.toList d.s.data.toList else ordI c.n d.n) else ordI c.k d.k := by
  unfold cmpC cmpV firstNZ firstNZ firstNZ firstNZ
  by_cases h1 : ordI c.k d.k = 0
  · rw [if_pos h1, if_pos h1]
    by_cases h2 : ordI c.n d.n = 0
    · rw [if_pos h2, if_pos h2]
      split
      · rename_i h; exact h.symm
      · rfl
    · rw [if_neg h2, if_neg h2]
  · rw [if_neg h1, if_neg h1]

theorem cmpB_cell {c d : Cel} (hc : c.ok) (hd : d.ok) (wc : c.wf) (wd : d.wf) (x y : List UInt8) :
    Lib.compareBytes (encC c ++ x) (encC d ++ y) = if cmpC c d = 0 then Lib.compareBytes x y else cmpC c d := by
  rw [cmpC_of]
  rcases encC_cases hc with ⟨rfl, e⟩ | ⟨rfl, e⟩ | ⟨rfl, e⟩ | ⟨n, rfl, e⟩ | ⟨s, rfl, hs, e⟩ <;>
  rcases encC_cases hd with ⟨rfl, e'⟩ | ⟨rfl, e'⟩ | ⟨rfl, e'⟩ | ⟨m, rfl, e'⟩ | ⟨t, rfl, ht, e'⟩ <;>
  simp only [e, e', List.cons_append, List.nil_append]
  all_goals try (rw [cmpB_lt _ _ (by decide)]; rfl)
  all_goals try (rw [cmpB_gt _ _ (by decide)]; rfl)
  · exact cmpB_same [0] x y
  · exact cmpB_same [1, 0] x y
  · have := cmpB_same [1] (0 :: x) (1 :: y)
    simp only [List.cons_append, List.nil_append] at this
    rw [this, cmpB_lt _ _ (by decide)]; rfl
  · have := cmpB_same [1] (1 :: x) (0 :: y)
    simp only [List.cons_append, List.nil_append] at this
    rw [this, cmpB_gt _ _ (by decide)]; rfl
  · exact cmpB_same [1, 1] x y
  · obtain ⟨⟨n1, n2⟩, _⟩ := wc
    obtain ⟨⟨m1, m2⟩, _⟩ := wd
    dsimp only at n1 n2 m1 m2 ⊢
    have := cmpB_same [2] (be8 (n + 9223372036854775808).toNat 8 ++ x) (be8 (m + 9223372036854775808).toNat 8 ++ y)
    simp only [List.cons_append, List.nil_append] at this
    rw [this, cmpB_be _ _ _ _ (by rw [be8_len, be8_len]), beVal_be8 _ (by omega), beVal_be8 _ (by omega)]
    have e0 : ordI 2 2 = 0 := by decide
    rw [e0, if_pos rfl]
    unfold ordI
    by_cases h1 : n < m
    · rw [if_pos (by omega), if_pos h1]; rfl
    · rw [if_neg (by omega), if_neg h1]
      by_cases h2 : m < n
      · rw [if_pos (by omega), if_pos h2]; rfl
      · rw [if_neg (by omega), if_neg h2]; rfl
  · have := cmpB_same [3] (encT s.data.toList ++ [0, 1] ++ x) (encT t.data.toList ++ [0, 1] ++ y)
    simp only [List.cons_append, List.nil_append, List.append_assoc] at this ⊢
    rw [this, cmpB_text]
    rfl

/-- OF TWO ROWS THE ONE THAT COMES AHEAD HAS THE LESSER KEY -/
theorem cmpB_rows (a b : List Cel) (ha : ∀ c ∈ a, c.ok ∧ c.wf) (hb : ∀ c ∈ b, c.ok ∧ c.wf) : Lib.compareBytes (encR a) (encR b) = cmpRows a b := by
  induction a generalizing b with
  | nil =>
    cases b with
    | nil => rfl
    | cons d b =>
      have e : encR (d :: b) = encC d ++ encR b := rfl
      rw [e]
      have := encC_ne (hb d (List.mem_cons_self ..)).1
      cases h : encC d with
      | nil => exact absurd h this
      | cons z zs => rfl
  | cons c a ih =>
    have ec : encR (c :: a) = encC c ++ encR a := rfl
    have hc := ha c (List.mem_cons_self ..)
    cases b with
    | nil =>
      rw [ec]
      cases h : encC c with
      | nil => exact absurd h (encC_ne hc.1)
      | cons z zs => rfl
    | cons d b =>
      have ed : encR (d :: b) = encC d ++ encR b := rfl
      have hd := hb d (List.mem_cons_self ..)
      rw [ec, ed, cmpB_cell hc.1 hd.1 hc.2 hd.2, ih b (fun x hx => ha x (List.mem_cons_of_mem _ hx)) (fun x hx => hb x (List.mem_cons_of_mem _ hx)), cmpRows]
theorem cmpB_zero : ∀ {a b : List UInt8}, Lib.compareBytes a b = 0 ↔ a = b
  | [], [] => by simp [Lib.compareBytes]
  | [], _ :: _ => by simp [Lib.compareBytes]
  | _ :: _, [] => by simp [Lib.compareBytes]
  | a :: x, b :: y => by
    rw [Lib.compareBytes]
    by_cases h1 : a < b
    · rw [if_pos h1]
      exact ⟨fun h => absurd h (by decide), fun h => by cases h; exact absurd h1 (UInt8.lt_irrefl a)⟩
    · rw [if_neg h1]
      by_cases h2 : b < a
      · rw [if_pos h2]
        exact ⟨fun h => absurd h (by decide), fun h => by cases h; exact absurd h2 (UInt8.lt_irrefl a)⟩
      · rw [if_neg h2]
        have h3 : a = b := UInt8.le_antisymm (UInt8.not_lt.1 h2) (UInt8.not_lt.1 h1)
        rw [cmpB_zero, h3]; simp
theorem encR_inj {a b : List Cel} (ha : ∀ c ∈ a, c.ok ∧ c.wf) (hb : ∀ c ∈ b, c.ok ∧ c.wf) (h : encR a = encR b) : a = b := by
  obtain ⟨r2, e1, e2⟩ := encR_split a b [] ha hb (by rw [List.append_nil]; exact h)
  cases r2 with
  | nil => rw [e1, List.append_nil]
  | cons d r2 =>
    have hd := hb d (by rw [e1]; simp)
    have e3 : encR (d :: r2) = encC d ++ encR r2 := rfl
    rw [e3] at e2
    exact absurd (List.append_eq_nil_iff.1 e2.symm).1 (encC_ne hd.1)
end Go.Proofs.YtbfbgdinhiglaaaGreat.vl
