/- Several texts in one: ValOrder, ValBegun, ValRef, ValFront, ValFront2, ValFront3, ValRBack, TimesBase. -/
import Derived.Test.YtnfknkihiapgiaaFvB
import Derived.Lib.SmallJoins
import Derived.Test.YtnfknkihiapgiaaRows
import Derived.WalkKit
import Derived.ProofKit
import Derived.OpenShut
/- Of two rows the one that comes ahead has the lesser key. No Go in sight. -/
namespace Go.Proofs.Ytnfknkihiapgiaa.vl
set_option linter.unusedVariables false
set_option linter.unusedSimpArgs false

theorem cmpB_same (l x y : List UInt8) : Lib.compareBytes (l ++ x) (l ++ y) = Lib.compareBytes x y := by
  induction l with
  | nil => rfl
  | cons a l ih =>
    rw [List.cons_append, List.cons_append, Lib.compareBytes, if_neg (UInt8.lt_irrefl a), if_neg (UInt8.lt_irrefl a)]
    exact ih
theorem cmpB_lt {a b : UInt8} (x y : List UInt8) (h : a < b) : Lib.compareBytes (a :: x) (b :: y) = -1 := by rw [Lib.compareBytes, if_pos h]
theorem cmpB_gt {a b : UInt8} (x y : List UInt8) (h : b < a) : Lib.compareBytes (a :: x) (b :: y) = 1 := by
  rw [Lib.compareBytes, if_neg (fun h' => absurd (UInt8.lt_trans h h') (UInt8.lt_irrefl b)), if_pos h]

theorem fold_acc (l : List UInt8) (a : Nat) : l.foldl (fun u b => u * 256 + b.toNat) a = a * 256 ^ l.length + beVal l := by
  induction l generalizing a with
  | nil => simp [beVal]
  | cons b l ih =>
    have e : beVal (b :: l) = (b :: l).foldl (fun u b => u * 256 + b.toNat) 0 := rfl
    rw [e, List.foldl_cons, List.foldl_cons, ih, ih (0 * 256 + b.toNat), List.length_cons, Nat.pow_succ]
    rw [Nat.add_mul, Nat.mul_assoc, Nat.mul_comm 256, Nat.zero_mul, Nat.zero_add]
    omega
theorem beVal_cons (b : UInt8) (l : List UInt8) : beVal (b :: l) = b.toNat * 256 ^ l.length + beVal l := by
  have e : beVal (b :: l) = l.foldl (fun u b => u * 256 + b.toNat) (0 * 256 + b.toNat) := rfl
  rw [e, fold_acc]; simp
theorem cmpB_be (l m x y : List UInt8) (h : l.length = m.length) :
    Lib.compareBytes (l ++ x) (m ++ y) = if beVal l < beVal m then -1 else if beVal m < beVal l then 1 else Lib.compareBytes x y := by
  induction l generalizing m with
  | nil =>
    cases m with
    | nil => simp [beVal]
    | cons b m => simp at h
  | cons a l ih =>
    cases m with
    | nil => simp at h
    | cons b m =>
      have hl : l.length = m.length := by simpa using h
      have b1 := beVal_bound l
      have b2 := beVal_bound m
      rw [List.cons_append, List.cons_append, beVal_cons, beVal_cons]
      rw [hl] at b1 ⊢
      by_cases h1 : a < b
      · have h1' : a.toNat + 1 ≤ b.toNat := UInt8.lt_iff_toNat_lt.1 h1
        have := Nat.mul_le_mul_right (256 ^ m.length) h1'
        rw [Nat.add_mul] at this
        rw [cmpB_lt _ _ h1, if_pos (by omega)]
      · by_cases h2 : b < a
        · have h2' : b.toNat + 1 ≤ a.toNat := UInt8.lt_iff_toNat_lt.1 h2
          have := Nat.mul_le_mul_right (256 ^ m.length) h2'
          rw [Nat.add_mul] at this
          rw [cmpB_gt _ _ h2, if_neg (by omega), if_pos (by omega)]
        · have h3 : a = b := UInt8.le_antisymm (UInt8.not_lt.1 h2) (UInt8.not_lt.1 h1)
          subst h3
          rw [Lib.compareBytes, if_neg h1, if_neg h1, ih m hl]
          simp only [Nat.add_lt_add_iff_left]

theorem pos_of_ne {b : UInt8} (h : b ≠ 0) : (0 : UInt8) < b := by
  rcases Nat.eq_zero_or_pos b.toNat with h0 | h0
  · exact absurd (byte_eq h0) h
  · exact UInt8.lt_iff_toNat_lt.2 h0

theorem cmpB_text (s t x y : List UInt8) :
    Lib.compareBytes (encT s ++ 0 :: 1 :: x) (encT t ++ 0 :: 1 :: y) = if Lib.compareBytes s t = 0 then Lib.compareBytes x y else Lib.compareBytes s t := by
  induction s generalizing t with
  | nil =>
    cases t with
    | nil => simp [encT, Lib.compareBytes]
    | cons b t =>
      rw [encT_cons]
      by_cases hb : b = 0
      · rw [if_pos hb]; simp [encT, Lib.compareBytes]
      · have := pos_of_ne hb
        rw [if_neg hb]; simp [encT, Lib.compareBytes, this]
  | cons a s ih =>
    cases t with
    | nil =>
      rw [encT_cons]
      by_cases ha : a = 0
      · rw [if_pos ha]; simp [encT, Lib.compareBytes]
      · have := pos_of_ne ha
        have h2 : ¬ a < 0 := fun h => absurd (UInt8.lt_trans this h) (UInt8.lt_irrefl 0)
        rw [if_neg ha]; simp [encT, Lib.compareBytes, this, h2]
    | cons b t =>
      rw [encT_cons, encT_cons]
      by_cases hab : a = b
      · subst hab
        rw [List.append_assoc, List.append_assoc, cmpB_same, ih t, Lib.compareBytes, if_neg (UInt8.lt_irrefl a), if_neg (UInt8.lt_irrefl a)]
      · by_cases h1 : a < b
        · have e : Lib.compareBytes (a :: s) (b :: t) = -1 := cmpB_lt _ _ h1
          have hb : b ≠ 0 := fun h => by subst h; exact absurd (UInt8.lt_iff_toNat_lt.1 h1) (Nat.not_lt_zero _)
          rw [e, if_neg (show ¬ ((-1 : Int) = 0) by decide), if_neg hb]
          by_cases ha : a = 0
          · rw [if_pos ha]
            exact cmpB_lt _ _ (pos_of_ne hb)
          · rw [if_neg ha]
            exact cmpB_lt _ _ h1
        · have h2 : b < a := by
            rcases Nat.lt_trichotomy a.toNat b.toNat with h | h | h
            · exact absurd (UInt8.lt_iff_toNat_lt.2 h) h1
            · exact absurd (byte_eq h) hab
            · exact UInt8.lt_iff_toNat_lt.2 h
          have e : Lib.compareBytes (a :: s) (b :: t) = 1 := cmpB_gt _ _ h2
          have ha : a ≠ 0 := fun h => by subst h; exact absurd (UInt8.lt_iff_toNat_lt.1 h2) (Nat.not_lt_zero _)
          rw [e, if_neg (show ¬ ((1 : Int) = 0) by decide), if_neg ha]
          by_cases hb : b = 0
          · rw [if_pos hb]
            exact cmpB_gt _ _ (pos_of_ne ha)
          · rw [if_neg hb]
            exact cmpB_gt _ _ h2

theorem cmpC_of (c d : Cel) : cmpC c d = if ordI c.k d.k = 0 then (if ordI c.n d.n = 0 then Lib.compareBytes c.s.data.toList d.s.data.toList else ordI c.n d.n) else ordI c.k d.k := by
  unfold cmpC cmpV firstNZ firstNZ firstNZ firstNZ
  by_cases h1 : ordI c.k d.k = 0
  · rw [if_pos h1, if_pos h1]
    by_cases h2 : ordI c.n d.n = 0
    · rw [if_pos h2, if_pos h2]
      split
      · rename_i h; exact h.symm
      · rfl
    · rw [if_neg h2, if_neg h2]
  · rw [if_neg h1, if_neg h1]

theorem cmpB_cell {c d : Cel} (hc : c.ok) (hd : d.ok) (wc : c.wf) (wd : d.wf) (x y : List UInt8) :
    Lib.compareBytes (encC c ++ x) (encC d ++ y) = if cmpC c d = 0 then Lib.compareBytes x y else cmpC c d := by
  rw [cmpC_of]
  rcases encC_cases hc with ⟨rfl, e⟩ | ⟨rfl, e⟩ | ⟨rfl, e⟩ | ⟨n, rfl, e⟩ | ⟨s, rfl, hs, e⟩ <;>
  rcases encC_cases hd with ⟨rfl, e'⟩ | ⟨rfl, e'⟩ | ⟨rfl, e'⟩ | ⟨m, rfl, e'⟩ | ⟨t, rfl, ht, e'⟩ <;>
  simp only [e, e', List.cons_append, List.nil_append]
  all_goals try (rw [cmpB_lt _ _ (by decide)]; rfl)
  all_goals try (rw [cmpB_gt _ _ (by decide)]; rfl)
  · exact cmpB_same [0] x y
  · exact cmpB_same [1, 0] x y
  · have := cmpB_same [1] (0 :: x) (1 :: y)
    simp only [List.cons_append, List.nil_append] at this
    rw [this, cmpB_lt _ _ (by decide)]; rfl
  · have := cmpB_same [1] (1 :: x) (0 :: y)
    simp only [List.cons_append, List.nil_append] at this
    rw [this, cmpB_gt _ _ (by decide)]; rfl
  · exact cmpB_same [1, 1] x y
  · obtain ⟨⟨n1, n2⟩, _⟩ := wc
    obtain ⟨⟨m1, m2⟩, _⟩ := wd
    dsimp only at n1 n2 m1 m2 ⊢
    have := cmpB_same [2] (be8 (n + 9223372036854775808).toNat 8 ++ x) (be8 (m + 9223372036854775808).toNat 8 ++ y)
    simp only [List.cons_append, List.nil_append] at this
    rw [this, cmpB_be _ _ _ _ (by rw [be8_len, be8_len]), beVal_be8 _ (by omega), beVal_be8 _ (by omega)]
    have e0 : ordI 2 2 = 0 := by decide
    rw [e0, if_pos rfl]
    unfold ordI
    by_cases h1 : n < m
    · rw [if_pos (by omega), if_pos h1]; rfl
    · rw [if_neg (by omega), if_neg h1]
      by_cases h2 : m < n
      · rw [if_pos (by omega), if_pos h2]; rfl
      · rw [if_neg (by omega), if_neg h2]; rfl
  · have := cmpB_same [3] (encT s.data.toList ++ [0, 1] ++ x) (encT t.data.toList ++ [0, 1] ++ y)
    simp only [List.cons_append, List.nil_append, List.append_assoc] at this ⊢
    rw [this, cmpB_text]
    rfl

/-- OF TWO ROWS THE ONE THAT COMES AHEAD HAS THE LESSER KEY -/
theorem cmpB_rows (a b : List Cel) (ha : ∀ c ∈ a, c.ok ∧ c.wf) (hb : ∀ c ∈ b, c.ok ∧ c.wf) : Lib.compareBytes (encR a) (encR b) = cmpRows a b := by
  induction a generalizing b with
  | nil =>
    cases b with
    | nil => rfl
    | cons d b =>
      have e : encR (d :: b) = encC d ++ encR b := rfl
      rw [e]
      have := encC_ne (hb d (List.mem_cons_self ..)).1
      cases h : encC d with
      | nil => exact absurd h this
      | cons z zs => rfl
  | cons c a ih =>
    have ec : encR (c :: a) = encC c ++ encR a := rfl
    have hc := ha c (List.mem_cons_self ..)
    cases b with
    | nil =>
      rw [ec]
      cases h : encC c with
      | nil => exact absurd h (encC_ne hc.1)
      | cons z zs => rfl
    | cons d b =>
      have ed : encR (d :: b) = encC d ++ encR b := rfl
      have hd := hb d (List.mem_cons_self ..)
      rw [ec, ed, cmpB_cell hc.1 hd.1 hc.2 hd.2, ih b (fun x hx => ha x (List.mem_cons_of_mem _ hx)) (fun x hx => hb x (List.mem_cons_of_mem _ hx)), cmpRows]
theorem cmpB_zero : ∀ {a b : List UInt8}, Lib.compareBytes a b = 0 ↔ a = b
  | [], [] => by simp [Lib.compareBytes]
  | [], _ :: _ => by simp [Lib.compareBytes]
  | _ :: _, [] => by simp [Lib.compareBytes]
  | a :: x, b :: y => by
    rw [Lib.compareBytes]
    by_cases h1 : a < b
    · rw [if_pos h1]
      exact ⟨fun h => absurd h (by decide), fun h => by cases h; exact absurd h1 (UInt8.lt_irrefl a)⟩
    · rw [if_neg h1]
      by_cases h2 : b < a
      · rw [if_pos h2]
        exact ⟨fun h => absurd h (by decide), fun h => by cases h; exact absurd h2 (UInt8.lt_irrefl a)⟩
      · rw [if_neg h2]
        have h3 : a = b := UInt8.le_antisymm (UInt8.not_lt.1 h2) (UInt8.not_lt.1 h1)
        rw [cmpB_zero, h3]; simp
theorem encR_inj {a b : List Cel} (ha : ∀ c ∈ a, c.ok ∧ c.wf) (hb : ∀ c ∈ b, c.ok ∧ c.wf) (h : encR a = encR b) : a = b := by
  obtain ⟨r2, e1, e2⟩ := encR_split a b [] ha hb (by rw [List.append_nil]; exact h)
  cases r2 with
  | nil => rw [e1, List.append_nil]
  | cons d r2 =>
    have hd := hb d (by rw [e1]; simp)
    have e3 : encR (d :: r2) = encC d ++ encR r2 := rfl
    rw [e3] at e2
    exact absurd (List.append_eq_nil_iff.1 e2.symm).1 (encC_ne hd.1)
end Go.Proofs.Ytnfknkihiapgiaa.vl

/- valueBegun answers true. -/
namespace Go.Proofs.Ytnfknkihiapgiaa.vl
open Go.ChangeShapes Go.WideShapes Go.ChangeAt Go.RowKit
set_option linter.unusedVariables false
set_option linter.unusedSimpArgs false

def R4 : List Cel := [⟨2, -1, ⟨#[]⟩⟩, ⟨3, 0, ⟨#[97, 0]⟩⟩, ⟨1, 1, ⟨#[]⟩⟩, ⟨0, 0, ⟨#[]⟩⟩]
theorem R4_ok : rowOk R4 := by
  refine ⟨by decide, ?_⟩
  intro c hc
  simp only [R4, List.mem_cons, List.not_mem_nil, or_false] at hc
  rcases hc with rfl | rfl | rfl | rfl
  · exact ⟨int_ok _, wf0 _ _ (by decide) (by decide)⟩
  · exact ⟨chk_ok _ _ _ (by decide), wf3 (by decide)⟩
  · exact ⟨chk_ok _ _ _ (by decide), wf0 _ _ (by decide) (by decide)⟩
  · exact ⟨chk_ok _ _ _ (by decide), wf0 _ _ (by decide) (by decide)⟩
theorem row4 (w : World) (b : Nat) (h0 : w.cell? ⟨b, 0, none⟩ = some (.int .i64 2)) (h1 : w.cell? ⟨b, 1, none⟩ = some (.int .i64 (-1))) (h2 : w.cell? ⟨b, 2, none⟩ = some (.string ⟨#[]⟩))
    (h3 : w.cell? ⟨b, 3, none⟩ = some (.int .i64 3)) (h4 : w.cell? ⟨b, 4, none⟩ = some (.int .i64 0)) (h5 : w.cell? ⟨b, 5, none⟩ = some (.string ⟨#[97, 0]⟩))
    (h6 : w.cell? ⟨b, 6, none⟩ = some (.int .i64 1)) (h7 : w.cell? ⟨b, 7, none⟩ = some (.int .i64 1)) (h8 : w.cell? ⟨b, 8, none⟩ = some (.string ⟨#[]⟩))
    (h9 : w.cell? ⟨b, 9, none⟩ = some (.int .i64 0)) (h10 : w.cell? ⟨b, 10, none⟩ = some (.int .i64 0)) (h11 : w.cell? ⟨b, 11, none⟩ = some (.string ⟨#[]⟩)) : rowAt w (some ⟨b, 0, none⟩) R4 := by
  intro i hi
  refine ⟨b, 0, rfl, ?_⟩
  match i, hi with
  | 0, _ => exact ⟨h0, h1, h2⟩
  | 1, _ => exact ⟨h3, h4, h5⟩
  | 2, _ => exact ⟨h6, h7, h8⟩
  | 3, _ => exact ⟨h9, h10, h11⟩
theorem begun_same (a1 a2 : Option Addr) (c1 c2 : Nat) (w : World) (h1 : rowAt w a1 R4) (h2 : rowAt w a2 R4) : Calls Try.prog 56 #[.slice a1 4 c1, .slice a2 4 c2] w fun e w' => e = .returned (.bool true) ∧ Below w.heap.size w w' :=
  (same_any a1 a2 c1 c2 R4 R4 w h1 h2 (by decide) (by decide)).mono fun e w' ⟨he, hb⟩ => ⟨he.trans (ret_bool (by simp)), hb⟩
theorem begun_key (a : Option Addr) (cap : Nat) (w : World) (hr : rowAt w a R4) : Calls Try.prog 59 #[.slice a 4 cap] w fun e w' => e = .returned (.tuple #[.string (keyS R4), .int .i64 0]) ∧ Below w.heap.size w w' :=
  key_ok a cap R4 w hr R4_ok
theorem begun_back (w : World) : Calls Try.prog 58 #[.string (keyS R4)] w fun e w' => (∃ ad cap, e = .returned (.tuple #[.slice ad 4 cap, .int .i64 0]) ∧ rowAt w' ad R4) ∧ Below w.heap.size w w' :=
  (back_yes (keyS R4) R4 w (Nat.le_trans (keyS_len R4_ok) (by unfold maxLen; omega)) R4_ok (keyS_ok R4_ok).symm).mono fun e w' ⟨⟨ad, cap, he, ho⟩, hb⟩ => ⟨⟨ad, cap, he, ownV_row ho⟩, hb⟩

end Go.Proofs.Ytnfknkihiapgiaa.vl

/- The reference's key of a row: eight, cellKey and Key. -/
namespace Go.Proofs.Ytnfknkihiapgiaa.vl
open Go.ChangeShapes Go.WideShapes Go.ChangeAt Go.RowKit
set_option linter.unusedVariables false
set_option linter.unusedSimpArgs false

/-- 'string([]byte{b})' -/
theorem conv_new (w : World) (B : Nat) (hB : w.heap.size = B) (b : UInt8) : (convert 100 9 (.slice (some ⟨B, 0, none⟩) 1 1)).run Try.prog (w.alloc (.cells #[.int .u8 (b.toNat : Int)] 5)) = .ok (.string ⟨#[b]⟩) (w.alloc (.cells #[.int .u8 (b.toNat : Int)] 5)) := by
  subst hB
  exact run_convert_bytes_back (w.alloc (.cells #[.int .u8 (b.toNat : Int)] 5)) 100 9 5 ⟨w.heap.size, 0, none⟩ 1 [b] Try.underlying100 Try.underlying5 Try.underlying9 (fun j hj => by
    have : j = 0 := by simp at hj; omega
    subst this
    simp [Addr.add])

theorem conv_lit (w : World) (B : Nat) (hB : w.heap.size = B) (x : Int) (b : UInt8) (hx : (b.toNat : Int) = x) : (convert 100 9 (.slice (some ⟨B, 0, none⟩) 1 1)).run Try.prog (w.alloc (.cells #[.int .u8 x] 5)) = .ok (.string ⟨#[b]⟩) (w.alloc (.cells #[.int .u8 x] 5)) := by
  subst hx; exact conv_new w B hB b
theorem byteAt_int (u j : Nat) : ((u : Int) / 2 ^ (56 - 8 * j) % 256) = ((byteAt u j).toNat : Int) := by
  have := byteAt_eq u j
  unfold byteV at this
  injection this

theorem str_push (a : ByteArray) (l : List UInt8) (h : a = ⟨l.toArray⟩) (b : UInt8) : a ++ (⟨#[b]⟩ : ByteArray) = ⟨(l ++ [b]).toArray⟩ := by
  subst h
  apply str_eq
  rw [Joins.data_append]

set_option maxHeartbeats 1000000 in
theorem eight_any (n : Int) (u : Nat) (w : World) (hu : IntKind.u64.wrap n = (u : Int)) (hu2 : u ≤ 18446744073709551615) :
    Calls Try.prog 112 #[.int .i64 n] w fun e w' => e = .returned (.string ⟨(be8 u 8).toArray⟩) ∧ Below w.heap.size w w' := by
  go_enter Try.func112, Try.ntmps112
  go_wp2
  go_loopw [3, 4] (fun t i wr => ∃ j : Nat, j ≤ 8 ∧ i = .int .i64 (56 - 8 * (j : Int)) ∧ t = .string ⟨(be8 u j).toArray⟩ ∧ Below w.heap.size w wr) (fun _ i _ => (intOf i + 8).toNat)
  case atStart => exact ⟨0, by omega, rfl, rfl, Below.refl _ _⟩
  case round =>
    obtain ⟨j, hj, rfl, rfl, hnx⟩ := hrel
    by_cases hlt : j < 8
    · have hb := byteAt_int u j
      have hcv := fun wx => conv_new wx wx.heap.size rfl (byteAt u j)
      have hl := be8_len u j
      go_wp2
      go_roundw
      case rel => exact ⟨j + 1, by omega, by go_num, by rw [str_push _ _ rfl, ← be8_succ], hnx.alloc hnx.size _⟩
      case measure => simp [intOf]; omega
    · have h8 : j = 8 := by omega
      subst h8
      go_wp2
      go_ret
      exact ⟨rfl, hnx⟩

theorem str_cons (b : UInt8) (l : List UInt8) : (⟨#[b]⟩ : ByteArray) ++ (⟨l.toArray⟩ : ByteArray) = ⟨(b :: l).toArray⟩ := by
  apply str_eq
  rw [Joins.data_append]
  rfl
theorem str_app (l m : List UInt8) : (⟨l.toArray⟩ : ByteArray) ++ (⟨m.toArray⟩ : ByteArray) = ⟨(l ++ m).toArray⟩ := by
  apply str_eq
  rw [Joins.data_append]
theorem extract_one (s : ByteArray) (k : Nat) (h : k < s.size) : s.extract k (k + 1) = ⟨#[s[k]]⟩ := by
  apply str_eq
  have h1 : s.data.toList.drop k = s[k] :: s.data.toList.drop (k + 1) := drop_cons s k h
  simp only [ByteArray.data_extract, Array.toList_extract]
  rw [List.extract_eq_take_drop, h1]
  simp
theorem ret_str {a b : ByteArray} (h : a = b) : Ending.returned (.string a) = .returned (.string b) := by rw [h]

set_option maxHeartbeats 2000000 in
theorem cellKey_any (k n : Int) (s : ByteArray) (w : World) (n1 : -9223372036854775808 ≤ n) (n2 : n ≤ 9223372036854775807) (hc : chk k n s = 0) :
    Calls Try.prog 110 #[.agg #[.int .i64 k, .int .i64 n, .string s]] w fun e w' => e = .returned (.string ⟨(encC ⟨k, n, s⟩).toArray⟩) ∧ Below w.heap.size w w' := by
  obtain ⟨hs, hk⟩ := chk_cases hc
  clear hc
  rcases hk with ⟨rfl, rfl, hs0⟩ | ⟨rfl, rfl, hs0⟩ | ⟨rfl, rfl, hs0⟩ | ⟨rfl, hs0⟩ | ⟨rfl, rfl⟩
  · have hcv := conv_lit (w.alloc (.cells #[.int .i64 0, .int .i64 0, .string s] 96)) (w.heap.size + 1) (by simp) 0 0 rfl
    go_enter Try.func110, Try.ntmps110
    go_wp2
    go_ret
    exact ⟨rfl, ((Below.refl _ _).alloc (Nat.le_refl _) _).alloc (by simp) _⟩
  · have hcv := conv_lit (w.alloc (.cells #[.int .i64 1, .int .i64 0, .string s] 96)) (w.heap.size + 1) (by simp) 1 1 rfl
    have hcv2 := conv_lit ((w.alloc (.cells #[.int .i64 1, .int .i64 0, .string s] 96)).alloc (.cells #[.int .u8 1] 5)) (w.heap.size + 1 + 1) (by simp) 0 0 rfl
    go_enter Try.func110, Try.ntmps110
    go_wp2
    go_ret
    exact ⟨rfl, (((Below.refl _ _).alloc (Nat.le_refl _) _).alloc (by simp) _).alloc (by simp; omega) _⟩
  · have hcv := conv_lit (w.alloc (.cells #[.int .i64 1, .int .i64 1, .string s] 96)) (w.heap.size + 1) (by simp) 1 1 rfl
    have hcv2 := conv_lit ((w.alloc (.cells #[.int .i64 1, .int .i64 1, .string s] 96)).alloc (.cells #[.int .u8 1] 5)) (w.heap.size + 1 + 1) (by simp) 1 1 rfl
    go_enter Try.func110, Try.ntmps110
    go_wp2
    go_ret
    exact ⟨rfl, (((Below.refl _ _).alloc (Nat.le_refl _) _).alloc (by simp) _).alloc (by simp; omega) _⟩
  · have hcv := conv_lit (w.alloc (.cells #[.int .i64 2, .int .i64 n, .string s] 96)) (w.heap.size + 1) (by simp) 2 2 rfl
    have hx := sign_xor2 n n1 n2
    have HX : Hid (IntKind.u64.wrap (bits BinOp.xor IntKind.i64 n (-9223372036854775808)) = (((n + 9223372036854775808).toNat : Nat) : Int)) := hx
    clear hx
    have hl := be8_len (n + 9223372036854775808).toNat 8
    go_enter Try.func110, Try.ntmps110
    go_wp2_with (go_at_call 112; refine (eight_any _ (n + 9223372036854775808).toNat _ HX.out (by omega)).mono ?_; rintro e w1 ⟨rfl, hb1⟩)
    go_ret
    exact ⟨ret_str (str_cons 2 _), (((Below.refl _ _).alloc (Nat.le_refl _) _).alloc (by simp) _).trans (hb1.mono (by simp; omega))⟩
  · have hcv := conv_lit (w.alloc (.cells #[.int .i64 3, .int .i64 0, .string s] 96)) (w.heap.size + 1) (by simp) 3 3 rfl
    go_enter Try.func110, Try.ntmps110
    have hbl : Below w.heap.size w ((w.alloc (.cells #[.int .i64 3, .int .i64 0, .string s] 96)).alloc (.cells #[.int .u8 3] 5)) := ((Below.refl _ _).alloc (Nat.le_refl _) _).alloc (by simp) _
    go_wp2
    go_loop [3, 4] (fun t i => ∃ (k : Nat) (q : ByteArray), k ≤ s.size ∧ i = .int .i64 k ∧ t = .string q ∧ q.data.toList = 3 :: encT (s.data.toList.take k)) (fun _ i => s.size - (intOf i).toNat)
    case atStart => exact ⟨0, _, by omega, rfl, rfl, rfl⟩
    case round =>
      obtain ⟨k, q, hk, rfl, rfl, hq⟩ := hrel
      have HQ : Hid (q.data.toList = 3 :: encT (s.data.toList.take k)) := hq
      have hqs : q.size ≤ 129 := by
        rw [← list_len, hq]
        have h1 := encT_len (s.data.toList.take k)
        have h2 : (s.data.toList.take k).length ≤ k := List.length_take_le _ _
        simp only [List.length_cons]; omega
      clear hq
      by_cases hlt : k < s.size
      · have hex := extract_one s k hlt
        have HS : Hid (encT (s.data.toList.take (k + 1)) = encT (s.data.toList.take k) ++ (if s[k] = 0 then [0, 255] else [s[k]])) := by
          show encT (s.data.toList.take (k + 1)) = _
          rw [take_snoc s k hlt, encT_snoc]
        by_cases hz : ((s[k].toNat : Int) == 0) = true
        · have hz1 : s[k] = 0 := of_decide_eq_true ((byte_zero s[k]).symm.trans hz)
          have HZ : Hid (s[k] = 0) := hz1
          clear hz1
          go_wp2
          go_round
          case rel => exact ⟨k + 1, _, by omega, by go_num, rfl, by rw [Joins.data_append, Joins.data_append, HQ.out, HS.out, if_pos HZ.out, HZ.out]; simp⟩
          case measure => simp [intOf]; omega
        · have hz' : ((s[k].toNat : Int) == 0) = false := by simpa using hz
          have HZ : Hid (¬ s[k] = 0) := of_decide_eq_false ((byte_zero s[k]).symm.trans hz')
          go_wp2
          go_round
          case rel => exact ⟨k + 1, _, by omega, by go_num, rfl, by rw [Joins.data_append, HQ.out, HS.out, if_neg HZ.out]; simp⟩
          case measure => simp [intOf]; omega
      · have HE : Hid (s.data.toList.take k = s.data.toList) := List.take_of_length_le (by rw [list_len]; omega)
        go_wp2
        go_ret
        exact ⟨ret_str (by apply str_eq; rw [Joins.data_append, HQ.out, HE.out]; rfl), hbl⟩

set_option maxHeartbeats 2000000 in
theorem rkey_any (a : Option Addr) (cap : Nat) (r : List Cel) (w : World) (hr : rowAt w a r) (hok : rowOk r) :
    Calls Try.prog 95 #[.slice a r.length cap] w fun e w' => e = .returned (.string ⟨(encR r).toArray⟩) ∧ Below w.heap.size w w' := by
  obtain ⟨n, hn⟩ : ∃ n, r.length = n := ⟨_, rfl⟩
  have HN : Hid (r.length = n) := hn
  have h8 := hok.1
  rw [hn] at h8 ⊢
  clear hn
  go_enter Try.func95, Try.ntmps95
  go_wp2
  go_loopw [3, 4] (fun t i wr => ∃ (k : Nat) (q : ByteArray), k ≤ n ∧ i = .int .i64 k ∧ t = .string q ∧ q.data.toList = encR (r.take k) ∧ Below w.heap.size w wr) (fun _ i _ => n - (intOf i).toNat)
  case atStart => exact ⟨0, _, by omega, rfl, rfl, rfl, Below.refl _ _⟩
  case round =>
    obtain ⟨k, q, hk, rfl, rfl, hq, hnx⟩ := hrel
    have HQ : Hid (q.data.toList = encR (r.take k)) := hq
    have hqs : q.size ≤ 1048 := by
      rw [← list_len, hq]
      have h1 := encR_len (r.take k) (fun c hc => (hok.2 c (List.mem_of_mem_take hc)).1)
      have h2 : (r.take k).length ≤ k := List.length_take_le _ _
      omega
    clear hq
    by_cases hlt : k < n
    · obtain ⟨b1, o1, e1, x1, x2, x3⟩ := hr k (by rw [HN.out]; exact hlt)
      subst e1
      have q1 := cell_later hnx x1
      have q2 := cell_later hnx x2
      have q3 := cell_later hnx x3
      clear x1 x2 x3 hr
      have hw := hok.2 (r.getD k default) (by simp [List.getD_eq_getElem?_getD, show k < r.length by rw [HN.out]; exact hlt])
      have HT : Hid (encR (r.take (k + 1)) = encR (r.take k) ++ encC (r.getD k default)) := by
        show encR (r.take (k + 1)) = _
        rw [take_getD r k (by rw [HN.out]; exact hlt), encR_snoc]
      obtain ⟨⟨ka, na, sa⟩, hca⟩ : ∃ c, r.getD k default = c := ⟨_, rfl⟩
      rw [hca] at q1 q2 q3 hw
      have HCA : Hid (r.getD k default = ⟨ka, na, sa⟩) := hca
      clear hca
      have HC : Hid (chk ka na sa = 0) := hw.1
      have hcl : (encC ⟨ka, na, sa⟩).length ≤ 131 := encC_len _ hw.1
      obtain ⟨_, ⟨w1, w2⟩, w3⟩ := hw
      dsimp only at q1 q2 q3 w1 w2 w3
      have i1 : (0 : Int) ≤ (k : Int) := by omega
      have i2 : (k : Int) < (n : Int) := by omega
      go_wp2_with (go_at_call 110; refine (cellKey_any _ _ _ _ w1 w2 HC.out).mono ?_; rintro e wc ⟨rfl, hbc⟩)
      go_roundw
      case rel => exact ⟨k + 1, _, by omega, by go_num, rfl, by rw [Joins.data_append, HQ.out, HT.out, HCA.out], hnx.trans (hbc.mono hnx.size)⟩
      case measure => simp [intOf]; omega
    · have HE : Hid (r.take k = r) := List.take_of_length_le (by rw [HN.out]; omega)
      go_wp2
      go_ret
      exact ⟨ret_str (by apply str_eq; rw [HQ.out, HE.out]), hnx⟩
end Go.Proofs.Ytnfknkihiapgiaa.vl

/- The reference's front reads the cell that a key begins with. -/
namespace Go.Proofs.Ytnfknkihiapgiaa.vl
open Go.ChangeShapes Go.WideShapes Go.ChangeAt Go.RowKit
set_option linter.unusedVariables false
set_option linter.unusedSimpArgs false

/-- what front must read, if a right cell stands there -/
def reads (l : List UInt8) (c : Cel) (m : Nat) : Prop := ∀ (d : Cel) t, d.ok → d.wf → l = encC d ++ t → c = d ∧ m = (encC d).length
def frontRes (s : ByteArray) (e : Ending) : Prop := ∃ (c : Cel) (m : Nat), e = .returned (.tuple #[.agg #[.int .i64 c.k, .int .i64 c.n, .string c.s], .int .i64 (m : Int)]) ∧ m ≤ s.size ∧ c.wf ∧ reads s.data.toList c m
theorem reads_nil (c : Cel) (m : Nat) : reads [] c m := fun d t hd _ h => absurd (List.append_eq_nil_iff.1 h.symm).1 (encC_ne hd)
theorem reads_no {l : List UInt8} (h : noCell l) (c : Cel) (m : Nat) : reads l c m := fun d t hd hw e => absurd e (h d t hd hw)
theorem reads_null (l : List UInt8) : reads (0 :: l) ⟨0, 0, ⟨#[]⟩⟩ 1 := fun d t hd hw h => by
  obtain ⟨rfl, _⟩ := encC_inj (c := ⟨0, 0, ⟨#[]⟩⟩) (x := l) (chk_ok _ _ _ (by decide)) hd (wf0 _ _ (by decide) (by decide)) hw h
  exact ⟨rfl, rfl⟩
theorem reads_bool (b : UInt8) (l : List UInt8) : reads (1 :: b :: l) ⟨1, (b.toNat : Int), ⟨#[]⟩⟩ 2 := by
  by_cases hb : b = 0 ∨ b = 1
  · intro d t hd hw h
    obtain ⟨h1, h2⟩ := chk_bool b hb
    have hlt := b.toNat_lt
    obtain ⟨rfl, _⟩ := encC_inj (c := ⟨1, (b.toNat : Int), ⟨#[]⟩⟩) (x := l) h1 hd (wf0 _ _ (by omega) (by omega)) hw (by rw [h2]; exact h)
    exact ⟨rfl, by rw [h2]; rfl⟩
  · exact reads_no (no_bool (fun h => hb (.inl h)) (fun h => hb (.inr h))) _ _
theorem reads_int (l : List UInt8) (hl : 8 ≤ l.length) : reads (2 :: l) ⟨2, (beVal (l.take 8) : Int) - 9223372036854775808, ⟨#[]⟩⟩ 9 := fun d t hd hw h => by
  have hlt := beVal_lt (l.take 8) (by rw [List.length_take]; omega)
  obtain ⟨rfl, _⟩ := encC_inj (c := ⟨2, (beVal (l.take 8) : Int) - 9223372036854775808, ⟨#[]⟩⟩) (x := l.drop 8) (int_ok _) hd (wf0 _ _ (by omega) (by omega)) hw (by rw [← int_list l hl]; exact h)
  refine ⟨rfl, ?_⟩
  have e2 : encC ⟨2, (beVal (l.take 8) : Int) - 9223372036854775808, ⟨#[]⟩⟩ = 2 :: be8 (((beVal (l.take 8) : Int) - 9223372036854775808) + 9223372036854775808).toNat 8 := rfl
  rw [e2, List.length_cons, be8_len]

/-- what is left to be read of a text, wherever the text ends -/
def good (s : ByteArray) (t : List UInt8) (k : Nat) : Prop := ∀ t0 rest, s.data.toList.drop 1 = encT t0 ++ 0 :: 1 :: rest → ∃ t2, t0 = t ++ t2 ∧ s.data.toList.drop k = encT t2 ++ 0 :: 1 :: rest
theorem good_start (s : ByteArray) : good s [] 1 := fun t0 rest h => ⟨t0, rfl, h⟩
theorem good_byte {s : ByteArray} {t : List UInt8} {k : Nat} (h : good s t k) (hk : k < s.size) (hb : s[k] ≠ 0) : good s (t ++ [s[k]]) (k + 1) := fun t0 rest h0 => by
  obtain ⟨t2, e1, e2⟩ := h t0 rest h0
  rw [drop_cons s k hk] at e2
  cases t2 with
  | nil => simp [encT] at e2; exact absurd e2.1 hb
  | cons c t2 =>
    rw [encT_cons] at e2
    by_cases hc : c = 0
    · rw [if_pos hc] at e2; simp at e2; exact absurd e2.1 hb
    · rw [if_neg hc] at e2
      simp only [List.cons_append, List.nil_append, List.cons.injEq] at e2
      exact ⟨t2, by rw [e1, e2.1]; simp, e2.2⟩
theorem good_zero {s : ByteArray} {t : List UInt8} {k : Nat} (h : good s t k) (hk : k + 1 < s.size) (hb : s[k] = 0) (hc1 : s[k + 1] ≠ 1) : good s (t ++ [0]) (k + 1 + 1) := fun t0 rest h0 => by
  obtain ⟨t2, e1, e2⟩ := h t0 rest h0
  rw [drop_cons s k (by omega), drop_cons s (k + 1) hk, hb] at e2
  cases t2 with
  | nil => simp [encT] at e2; exact absurd e2.1 hc1
  | cons c t2 =>
    rw [encT_cons] at e2
    by_cases hc : c = 0
    · rw [if_pos hc] at e2
      simp only [List.cons_append, List.nil_append, List.cons.injEq] at e2
      exact ⟨t2, by rw [e1, hc]; simp, e2.2.2⟩
    · rw [if_neg hc] at e2; simp at e2; exact absurd e2.1.symm hc
theorem good_end {s : ByteArray} {t : List UInt8} {k : Nat} (h : good s t k) (hk : k + 1 < s.size) (hb : s[k] = 0) (hc1 : s[k + 1] = 1) (t0 rest : List UInt8)
    (h0 : s.data.toList.drop 1 = encT t0 ++ 0 :: 1 :: rest) : t0 = t ∧ k = 1 + (encT t0).length := by
  obtain ⟨t2, e1, e2⟩ := h t0 rest h0
  have hl1 := congrArg List.length h0
  have hl2 := congrArg List.length e2
  rw [drop_cons s k (by omega), drop_cons s (k + 1) hk, hb, hc1] at e2
  have : t2 = [] := by
    cases t2 with
    | nil => rfl
    | cons c t2 =>
      rw [encT_cons] at e2
      by_cases hc : c = 0
      · rw [if_pos hc] at e2; simp at e2
      · rw [if_neg hc] at e2; simp at e2; exact absurd e2.1.symm hc
  subst this
  rw [List.append_nil] at e1
  refine ⟨e1, ?_⟩
  simp only [List.length_drop, List.length_append, List.length_cons, list_len, encT, List.flatMap_nil, List.length_nil] at hl1 hl2
  unfold encT
  omega
theorem good_none {s : ByteArray} {t : List UInt8} {k : Nat} (h : good s t k) (hk : s.size ≤ k + 1) : noText (s.data.toList.drop 1) := fun t0 rest _ h0 => by
  obtain ⟨t2, e1, e2⟩ := h t0 rest h0
  have := congrArg List.length e2
  simp only [List.length_drop, List.length_append, List.length_cons, list_len] at this
  omega
theorem reads_text (s : ByteArray) (hs : 0 < s.size) (h0 : s[0] = 3) (t : List UInt8) (k : Nat) (hk : k + 1 < s.size) (h : good s t k) (hb : s[k] = 0) (hc1 : s[k + 1] = 1) : reads s.data.toList ⟨3, 0, ⟨t.toArray⟩⟩ (k + 2) := fun d r hd hw e => by
  have e0 : s.data.toList = s[0] :: s.data.toList.drop 1 := by have := drop_cons s 0 hs; simpa using this
  rw [e0, h0] at e
  rcases encC_cases hd with ⟨_, e'⟩ | ⟨_, e'⟩ | ⟨_, e'⟩ | ⟨n, _, e'⟩ | ⟨q, rfl, hq, e'⟩ <;> rw [e'] at e <;> simp only [List.cons_append, List.nil_append, List.cons.injEq] at e
  · exact absurd e.1 (by decide)
  · exact absurd e.1 (by decide)
  · exact absurd e.1 (by decide)
  · exact absurd e.1 (by decide)
  · obtain ⟨h1, h2⟩ := good_end h hk hb hc1 q.data.toList r (by simpa using e.2)
    refine ⟨by rw [← h1], ?_⟩
    rw [e']
    simp only [List.length_cons, List.length_append, List.length_nil]
    omega
theorem list_tail (s : ByteArray) (hs : 0 < s.size) : s.data.toList = s[0] :: s.data.toList.drop 1 := by have := drop_cons s 0 hs; simpa using this
end Go.Proofs.Ytnfknkihiapgiaa.vl

/- The walk of the reference's front. -/
namespace Go.Proofs.Ytnfknkihiapgiaa.vl
open Go.ChangeShapes Go.WideShapes Go.ChangeAt Go.RowKit
set_option linter.unusedVariables false
set_option linter.unusedSimpArgs false

theorem wrap_i64 (x : Int) : IntKind.i64.wrap x = wrap64 x := by
  simp only [IntKind.wrap, IntKind.signed, IntKind.bits, wrap64]
  simp
  split <;> omega
theorem ofInt_wrap (x : Nat) (hx : x < 18446744073709551616) : (BitVec.ofInt 64 (wrap64 (x : Int))).toNat = x := by
  rw [BitVec.toNat_ofInt]
  show ((wrap64 (x : Int)) % 18446744073709551616).toNat = x
  unfold wrap64
  omega
theorem or_byte2 (u b : Nat) (hu : u < 72057594037927936) (hb : b < 256) : bits BinOp.or IntKind.i64 (wrap64 ((u : Int) * 256)) (b : Int) = wrap64 ((u * 256 + b : Nat) : Int) := by
  unfold bits
  simp only [wrap_i64]
  rw [BitVec.toNat_or]
  have e1 : (BitVec.ofInt IntKind.i64.bits (wrap64 ((u : Int) * 256))).toNat = u * 256 := by
    have := ofInt_wrap (u * 256) (by omega)
    rw [show ((u * 256 : Nat) : Int) = (u : Int) * 256 by omega] at this
    exact this
  have e2 : (BitVec.ofInt IntKind.i64.bits (b : Int)).toNat = b := ofInt_toNat b (by omega)
  rw [e1, e2, or_nat u b hb]
theorem xor_back2 (u : Nat) (hu : u < 18446744073709551616) : bits BinOp.xor IntKind.i64 (wrap64 (u : Int)) (-9223372036854775808) = (u : Int) - 9223372036854775808 := by
  unfold bits
  simp only [wrap_i64]
  rw [BitVec.toNat_xor]
  have e1 : (BitVec.ofInt IntKind.i64.bits (wrap64 (u : Int))).toNat = u := ofInt_wrap u hu
  have e2 : (BitVec.ofInt IntKind.i64.bits (-9223372036854775808)).toNat = 9223372036854775808 := by rw [BitVec.toNat_ofInt]; rfl
  rw [e1, e2]
  by_cases h : u < 9223372036854775808
  · have := xor_low u (by omega)
    rw [show (2 : Nat) ^ 63 = 9223372036854775808 by decide] at this
    rw [this]
    unfold wrap64
    omega
  · have := xor_high u (by omega) (by omega)
    rw [show (2 : Nat) ^ 63 = 9223372036854775808 by decide] at this
    rw [this]
    unfold wrap64
    omega

set_option maxHeartbeats 2000000 in
theorem front_empty (s : ByteArray) (w : World) (hs : s.size = 0) :
    Calls Try.prog 94 #[.string s] w fun e w' => frontRes s e ∧ Below w.heap.size w w' := by
  have HL : Hid (s.data.toList = []) := List.eq_nil_of_length_eq_zero (by rw [list_len]; exact hs)
  go_enter Try.func94, Try.ntmps94
  go_wp2
  exact bodyPost_ret (v := .tuple #[.agg #[.int .i64 0, .int .i64 0, .string ⟨#[]⟩], .int .i64 0]) (by simp [results, Try.results94, go_sem]) rfl
    ⟨⟨⟨0, 0, ⟨#[]⟩⟩, 0, rfl, Nat.zero_le _, wf0 _ _ (by decide) (by decide), by rw [HL.out]; exact reads_nil _ _⟩,
    by repeat (first | exact Below.refl _ _ | (refine below_drewN ?_ _) | apply Below.drew | (refine Below.setCell ?_ (by simp) _) | (refine Below.alloc ?_ (by simp <;> omega) _))
    ⟩

set_option maxHeartbeats 2000000 in
theorem front_null (s : ByteArray) (w : World) (hs : 0 < s.size) (hm : s.size ≤ maxLen) (h0 : s[0] = 0) :
    Calls Try.prog 94 #[.string s] w fun e w' => frontRes s e ∧ Below w.heap.size w w' := by
  have HR : Hid (reads s.data.toList ⟨0, 0, ⟨#[]⟩⟩ 1) := by
    show reads s.data.toList ⟨0, 0, ⟨#[]⟩⟩ 1
    rw [list_tail s hs, h0]; exact reads_null _
  have hk : (s[0].toNat : Int) = 0 := by rw [h0]; rfl
  clear h0
  have hm' := hm
  unfold maxLen at hm'
  have i0 : (0 : Int) < (s.size : Int) := by omega
  have iz : ((s.size : Int) == 0) = false := by rw [beq_eq_false_iff_ne]; omega
  have b0 : (s[0].toNat : Int) ≤ 255 := by have := s[0].toNat_lt; omega
  go_enter Try.func94, Try.ntmps94
  go_wp2
  exact bodyPost_ret (v := .tuple #[.agg #[.int .i64 0, .int .i64 0, .string ⟨#[]⟩], .int .i64 1]) (by simp [results, Try.results94, go_sem]) rfl
    ⟨⟨⟨0, 0, ⟨#[]⟩⟩, 1, rfl, hs, wf0 _ _ (by decide) (by decide), HR.out⟩,
    by repeat (first | exact Below.refl _ _ | (refine below_drewN ?_ _) | apply Below.drew | (refine Below.setCell ?_ (by simp) _) | (refine Below.alloc ?_ (by simp <;> omega) _))
    ⟩
set_option maxHeartbeats 2000000 in
theorem front_other (s : ByteArray) (w : World) (hs : 0 < s.size) (hm : s.size ≤ maxLen) (h0 : s[0] ≠ 0) (h1 : s[0] ≠ 1) (h2 : s[0] ≠ 2) (h3 : s[0] ≠ 3) :
    Calls Try.prog 94 #[.string s] w fun e w' => frontRes s e ∧ Below w.heap.size w w' := by
  have HN : Hid (noCell s.data.toList) := by
    show noCell s.data.toList
    rw [list_tail s hs]; exact no_head h0 h1 h2 h3
  have k0 : ((s[0].toNat : Int) == 0) = false := (byte_is s[0] 0).trans (decide_eq_false h0)
  have k1 : ((s[0].toNat : Int) == 1) = false := (byte_is s[0] 1).trans (decide_eq_false h1)
  have k2 : ((s[0].toNat : Int) == 2) = false := (byte_is s[0] 2).trans (decide_eq_false h2)
  have k3 : ((s[0].toNat : Int) == 3) = false := (byte_is s[0] 3).trans (decide_eq_false h3)
  clear h0 h1 h2 h3
  have hm' := hm
  unfold maxLen at hm'
  have i0 : (0 : Int) < (s.size : Int) := by omega
  have iz : ((s.size : Int) == 0) = false := by rw [beq_eq_false_iff_ne]; omega
  have b0 : (s[0].toNat : Int) ≤ 255 := by have := s[0].toNat_lt; omega
  go_enter Try.func94, Try.ntmps94
  go_wp2
  exact bodyPost_ret (v := .tuple #[.agg #[.int .i64 (s[0].toNat : Int), .int .i64 0, .string ⟨#[]⟩], .int .i64 0]) (by simp [results, Try.results94, go_sem]) rfl
    ⟨⟨⟨_, 0, ⟨#[]⟩⟩, 0, rfl, Nat.zero_le _, wf0 _ _ (by decide) (by decide), reads_no HN.out _ _⟩,
    by repeat (first | exact Below.refl _ _ | (refine below_drewN ?_ _) | apply Below.drew | (refine Below.setCell ?_ (by simp) _) | (refine Below.alloc ?_ (by simp <;> omega) _))
    ⟩
set_option maxHeartbeats 2000000 in
theorem front_bool0 (s : ByteArray) (w : World) (hs : 0 < s.size) (hm : s.size ≤ maxLen) (h0 : s[0] = 1) (hz : ¬ 1 < s.size) :
    Calls Try.prog 94 #[.string s] w fun e w' => frontRes s e ∧ Below w.heap.size w w' := by
  have HN : Hid (noCell s.data.toList) := by
    show noCell s.data.toList
    rw [list_tail s hs, h0, List.drop_of_length_le (by rw [list_len]; omega)]; exact no_bool0
  have hk : (s[0].toNat : Int) = 1 := by rw [h0]; rfl
  clear h0
  have hm' := hm
  unfold maxLen at hm'
  have i0 : (0 : Int) < (s.size : Int) := by omega
  have iz : ((s.size : Int) == 0) = false := by rw [beq_eq_false_iff_ne]; omega
  have b0 : (s[0].toNat : Int) ≤ 255 := by have := s[0].toNat_lt; omega
  go_enter Try.func94, Try.ntmps94
  go_wp2
  exact bodyPost_ret (v := .tuple #[.agg #[.int .i64 1, .int .i64 0, .string ⟨#[]⟩], .int .i64 0]) (by simp [results, Try.results94, go_sem]) rfl
    ⟨⟨⟨1, 0, ⟨#[]⟩⟩, 0, rfl, Nat.zero_le _, wf0 _ _ (by decide) (by decide), reads_no HN.out _ _⟩,
    by repeat (first | exact Below.refl _ _ | (refine below_drewN ?_ _) | apply Below.drew | (refine Below.setCell ?_ (by simp) _) | (refine Below.alloc ?_ (by simp <;> omega) _))
    ⟩
set_option maxHeartbeats 2000000 in
theorem front_bool (s : ByteArray) (w : World) (hs : 0 < s.size) (hm : s.size ≤ maxLen) (h0 : s[0] = 1) (hz : 1 < s.size) :
    Calls Try.prog 94 #[.string s] w fun e w' => frontRes s e ∧ Below w.heap.size w w' := by
  have HR : Hid (reads s.data.toList ⟨1, (s[1].toNat : Int), ⟨#[]⟩⟩ 2) := by
    show reads s.data.toList ⟨1, (s[1].toNat : Int), ⟨#[]⟩⟩ 2
    rw [list_tail s hs, h0, drop_cons s 1 hz]; exact reads_bool _ _
  have HW : Hid ((⟨1, (s[1].toNat : Int), ⟨#[]⟩⟩ : Cel).wf) := by
    have := s[1].toNat_lt
    exact wf0 _ _ (by omega) (by omega)
  have hk : (s[0].toNat : Int) = 1 := by rw [h0]; rfl
  have b1 : (s[1].toNat : Int) ≤ 255 := by have := s[1].toNat_lt; omega
  clear h0
  have hm' := hm
  unfold maxLen at hm'
  have i0 : (0 : Int) < (s.size : Int) := by omega
  have iz : ((s.size : Int) == 0) = false := by rw [beq_eq_false_iff_ne]; omega
  have b0 : (s[0].toNat : Int) ≤ 255 := by have := s[0].toNat_lt; omega
  go_enter Try.func94, Try.ntmps94
  go_wp2
  exact bodyPost_ret (v := .tuple #[.agg #[.int .i64 1, .int .i64 (s[1].toNat : Int), .string ⟨#[]⟩], .int .i64 2]) (by simp [results, Try.results94, go_sem]) rfl
    ⟨⟨⟨1, _, ⟨#[]⟩⟩, 2, rfl, hz, HW.out, HR.out⟩,
    by repeat (first | exact Below.refl _ _ | (refine below_drewN ?_ _) | apply Below.drew | (refine Below.setCell ?_ (by simp) _) | (refine Below.alloc ?_ (by simp <;> omega) _))
    ⟩
set_option maxHeartbeats 2000000 in
theorem front_int0 (s : ByteArray) (w : World) (hs : 0 < s.size) (hm : s.size ≤ maxLen) (h0 : s[0] = 2) (hz : ¬ 8 < s.size) :
    Calls Try.prog 94 #[.string s] w fun e w' => frontRes s e ∧ Below w.heap.size w w' := by
  have HN : Hid (noCell s.data.toList) := by
    show noCell s.data.toList
    rw [list_tail s hs, h0]; exact no_int (by rw [List.length_drop, list_len]; omega)
  have hk : (s[0].toNat : Int) = 2 := by rw [h0]; rfl
  clear h0
  have hm' := hm
  unfold maxLen at hm'
  have i0 : (0 : Int) < (s.size : Int) := by omega
  have iz : ((s.size : Int) == 0) = false := by rw [beq_eq_false_iff_ne]; omega
  have b0 : (s[0].toNat : Int) ≤ 255 := by have := s[0].toNat_lt; omega
  go_enter Try.func94, Try.ntmps94
  go_wp2
  exact bodyPost_ret (v := .tuple #[.agg #[.int .i64 2, .int .i64 0, .string ⟨#[]⟩], .int .i64 0]) (by simp [results, Try.results94, go_sem]) rfl
    ⟨⟨⟨2, 0, ⟨#[]⟩⟩, 0, rfl, Nat.zero_le _, wf0 _ _ (by decide) (by decide), reads_no HN.out _ _⟩,
    by repeat (first | exact Below.refl _ _ | (refine below_drewN ?_ _) | apply Below.drew | (refine Below.setCell ?_ (by simp) _) | (refine Below.alloc ?_ (by simp <;> omega) _))
    ⟩
end Go.Proofs.Ytnfknkihiapgiaa.vl

/- The reference's front at an Int and at a Text; front whole. -/
namespace Go.Proofs.Ytnfknkihiapgiaa.vl
open Go.ChangeShapes Go.WideShapes Go.ChangeAt Go.RowKit
set_option linter.unusedVariables false
set_option linter.unusedSimpArgs false

theorem drop1_take (s : ByteArray) (j : Nat) (h : j + 1 < s.size) : (s.data.toList.drop 1).take (j + 1) = (s.data.toList.drop 1).take j ++ [s[j + 1]] := by
  rw [List.take_succ_eq_append_getElem (by rw [List.length_drop, list_len]; omega)]
  congr 2
  simp only [List.getElem_drop]
  have : 1 + j = j + 1 := by omega
  simp only [this]
  rfl

theorem wrap_zero : wrap64 (((beVal ([] : List UInt8) : Nat)) : Int) = 0 := by
  have : beVal ([] : List UInt8) = 0 := rfl
  rw [this]
  unfold wrap64
  omega

set_option maxHeartbeats 4000000 in
theorem front_int (s : ByteArray) (w : World) (hs : 0 < s.size) (hm : s.size ≤ maxLen) (h0 : s[0] = 2) (hz : 8 < s.size) :
    Calls Try.prog 94 #[.string s] w fun e w' => frontRes s e ∧ Below w.heap.size w w' := by
  have HR : Hid (reads s.data.toList ⟨2, (beVal ((s.data.toList.drop 1).take 8) : Int) - 9223372036854775808, ⟨#[]⟩⟩ 9) := by
    show reads s.data.toList _ 9
    rw [list_tail s hs, h0]
    exact reads_int _ (by rw [List.length_drop, list_len]; omega)
  have hk : (s[0].toNat : Int) = 2 := by rw [h0]; rfl
  clear h0
  have hm' := hm
  unfold maxLen at hm'
  have i0 : (0 : Int) < (s.size : Int) := by omega
  have iz : ((s.size : Int) == 0) = false := by rw [beq_eq_false_iff_ne]; omega
  have b0 : (s[0].toNat : Int) ≤ 255 := by have := s[0].toNat_lt; omega
  go_enter Try.func94, Try.ntmps94
  go_wp2
  go_loop [5, 6] (fun n i => ∃ j : Nat, j ≤ 8 ∧ i = .int .i64 ((j : Int) + 1) ∧ n = .int .i64 (wrap64 (beVal ((s.data.toList.drop 1).take j) : Int))) (fun _ i => (9 - intOf i).toNat)
  case atStart => exact ⟨0, by omega, rfl, by rw [List.take_zero, wrap_zero]⟩
  case round =>
    obtain ⟨j, hj, rfl, rfl⟩ := hrel
    obtain ⟨u, hu⟩ : ∃ u, beVal ((s.data.toList.drop 1).take j) = u := ⟨_, rfl⟩
    have HU : Hid (beVal ((s.data.toList.drop 1).take j) = u) := hu
    rw [hu]
    clear hu
    by_cases hlt : j < 8
    · have hlt2 : j + 1 < s.size := by omega
      have hub : u < 72057594037927936 := by
        have h1 := beVal_bound ((s.data.toList.drop 1).take j)
        rw [HU.out, List.length_take, List.length_drop, list_len] at h1
        have h2 : 256 ^ (min j (s.size - 1)) ≤ 256 ^ 7 := Nat.pow_le_pow_right (by omega) (by omega)
        omega
      have HUB : Hid (u < 72057594037927936) := hub
      have hwu : wrap64 (u : Int) = (u : Int) := by unfold wrap64; omega
      have HT : Hid (beVal ((s.data.toList.drop 1).take (j + 1)) = u * 256 + s[j + 1].toNat) := by
        show beVal ((s.data.toList.drop 1).take (j + 1)) = _
        rw [drop1_take s j hlt2, beVal_snoc, HU.out]
      have b1 : (s[j + 1].toNat : Int) ≤ 255 := by have := s[j + 1].toNat_lt; omega
      have hj1 : (0 : Int) ≤ (j : Int) + 1 := by omega
      have hj2 : (j : Int) + 1 < (s.size : Int) := by omega
      go_wp2
      go_round
      case rel => exact ⟨j + 1, by omega, by go_num, by rw [HT.out, or_byte2 u _ HUB.out s[j + 1].toNat_lt]⟩
      case measure => simp [intOf]; omega
    · have h8 : j = 8 := by omega
      subst h8
      have HB : Hid (u < 18446744073709551616) := by
        show u < 18446744073709551616
        rw [← HU.out]
        exact beVal_lt _ (by rw [List.length_take, List.length_drop, list_len]; omega)
      have hxb := xor_back2 u HB.out
      go_wp2
      exact bodyPost_ret (v := .tuple #[.agg #[.int .i64 2, .int .i64 ((u : Int) - 9223372036854775808), .string ⟨#[]⟩], .int .i64 9]) (by simp [results, Try.results94, go_sem]) rfl
        ⟨⟨⟨2, _, ⟨#[]⟩⟩, 9, rfl, hz, wf0 _ _ (by have := HB.out; omega) (by have := HB.out; omega), by have h := HR.out; rw [HU.out] at h; exact h⟩, by repeat (first | exact Below.refl _ _ | (refine below_drewN ?_ _) | apply Below.drew | (refine Below.setCell ?_ (by simp) _) | (refine Below.alloc ?_ (by simp <;> omega) _))⟩

theorem append_byteL {ops : Array Oper} {rest : List Oper} {o : Oper} {a : Act} {Q : Exit → Act → World → Prop} (hgd : o.guard = none) (s x : Operand)
    (ho : o.op = .call { callee := .builtin .append, args := #[s, x], argTypes := #[100, 100] }) (base : Nat) (v : Value) (l : List UInt8) (hs : a.eval s = v) (w0 : World)
    (hown : ownB w0 base v l) (X : Value) (b : UInt8) (hX : X = byteV b) (B : Nat) (hB : w0.heap.size = B) (hx : a.eval x = .slice (some ⟨B, 0, none⟩) 1 1) (hl : l.length + 1 ≤ 140737488355328) (hb : base ≤ w0.heap.size)
    (h : ∀ v' w', ownB w' base v' (l ++ [b]) → (w0.alloc (.cells #[X] 5)).grownBy w' v.ownBlock → wpList Try.prog ops Q rest (a.put o.dst v') w') :
    wpList Try.prog ops Q (o :: rest) a (w0.alloc (.cells #[X] 5)) := by
  subst hX
  subst hB
  obtain ⟨i0, hi, hz0, hz1, hz2⟩ := info_parts Try.info5
  refine wpList_append_own _ hgd s x 100 ho base 5 i0 (.int .u8 0) 1 1 Try.underlying100 hi hz0 hz1 hz2 rfl (by decide) v l.length (l.map byteV) hs
    (World.ownsRow.alloc hown _) ⟨w0.heap.size, 0, none⟩ 1 1 [byteV b] hx rfl (cell_one_new _ _ _) (by intro u hu; simp at hu; subst hu; rfl) (by unfold maxLen; omega) (by omega) (by simp; omega) ?_
  intro v' w' h1 h2 _
  refine h v' w' ?_ h2
  unfold ownB
  rw [List.length_append, List.map_append]
  exact h1

theorem bcell {W w1 : World} {B : Nat} (hb : Below B W w1) : (∀ b o, b < B → w1.cell? ⟨b, o, none⟩ = W.cell? ⟨b, o, none⟩) ∧ (∀ b o, b < B → w1.frozen? ⟨b, o, none⟩ = W.frozen? ⟨b, o, none⟩) :=
  ⟨fun b o h => hb.cell (p := ⟨b, o, none⟩) h, fun b o h => hb.frozen (p := ⟨b, o, none⟩) h⟩

set_option maxRecDepth 10000 in
set_option maxHeartbeats 4000000 in
theorem front_text (s : ByteArray) (w : World) (hs : 0 < s.size) (hm : s.size ≤ 140737488355328) (h0 : s[0] = 3) :
    Calls Try.prog 94 #[.string s] w fun e w' => frontRes s e ∧ Below w.heap.size w w' := by
  have HH : Hid (s[0] = 3) := h0
  have hk : (s[0].toNat : Int) = 3 := by rw [h0]; rfl
  clear h0
  have i0 : (0 : Int) < (s.size : Int) := by omega
  have iz : ((s.size : Int) == 0) = false := by rw [beq_eq_false_iff_ne]; omega
  have b0 : (s[0].toNat : Int) ≤ 255 := by have := s[0].toNat_lt; omega
  go_enter Try.func94, Try.ntmps94
  go_wp2
  go_loopw [7, 8] (fun v i wr => ∃ (k : Nat) (t : List UInt8), 1 ≤ k ∧ k ≤ s.size ∧ t.length < k ∧ i = .int .i64 k ∧ ownB wr (w.heap.size + 2) v t ∧ Below (w.heap.size + 2) ((w.alloc (.cells #[.int .i64 0, .int .i64 0, .string ⟨#[]⟩] 96)).alloc (.cells #[.int .i64 3, .int .i64 0, .string ⟨#[]⟩] 96)) wr ∧ good s t k) (fun _ i _ => s.size - (intOf i).toNat)
  case atStart => exact ⟨1, [], Nat.le_refl _, hs, by simp, rfl, World.ownsRow_nil _ _ _ _, Below.refl _ _, good_start s⟩
  case round =>
    obtain ⟨k, t, hk1, hk, htk, rfl, hown, hnx, hg⟩ := hrel
    have HO : Hid (ownB wr (w.heap.size + 2) u7 t) := hown
    have HG : Hid (good s t k) := hg
    have hsz := hnx.size
    simp only [World.size_alloc] at hsz
    have hbr : w.heap.size + 2 ≤ wr.heap.size := by omega
    have hbl0 : Below w.heap.size w ((w.alloc (.cells #[.int .i64 0, .int .i64 0, .string ⟨#[]⟩] 96)).alloc (.cells #[.int .i64 3, .int .i64 0, .string ⟨#[]⟩] 96)) := ((Below.refl _ _).alloc (Nat.le_refl _) _).alloc (by simp) _
    have hbl : Below w.heap.size w wr := hbl0.trans (hnx.mono (by omega))
    have c10 : wr.cell? ⟨w.heap.size + 1, 0, none⟩ = some (.int .i64 3) := (hnx.cell (by simp)).trans (by go_simp)
    have c11 : wr.cell? ⟨w.heap.size + 1, 1, none⟩ = some (.int .i64 0) := (hnx.cell (by simp)).trans (by go_simp)
    have c12 : wr.cell? ⟨w.heap.size + 1, 2, none⟩ = some (.string ⟨#[]⟩) := (hnx.cell (by simp)).trans (by go_simp)
    have c00 : wr.cell? ⟨w.heap.size, 0, none⟩ = some (.int .i64 0) := (hnx.cell (by simp)).trans (by go_simp)
    have c01 : wr.cell? ⟨w.heap.size, 1, none⟩ = some (.int .i64 0) := (hnx.cell (by simp)).trans (by go_simp)
    have c02 : wr.cell? ⟨w.heap.size, 2, none⟩ = some (.string ⟨#[]⟩) := (hnx.cell (by simp)).trans (by go_simp)
    have f10 : wr.frozen? ⟨w.heap.size + 1, 0, none⟩ = false := (hnx.frozen (by simp)).trans (by go_simp)
    have f12 : wr.frozen? ⟨w.heap.size + 1, 2, none⟩ = false := (hnx.frozen (by simp)).trans (by go_simp)
    have f00 : wr.frozen? ⟨w.heap.size, 0, none⟩ = false := (hnx.frozen (by simp)).trans (by go_simp)
    have f01 : wr.frozen? ⟨w.heap.size, 1, none⟩ = false := (hnx.frozen (by simp)).trans (by go_simp)
    have f02 : wr.frozen? ⟨w.heap.size, 2, none⟩ = false := (hnx.frozen (by simp)).trans (by go_simp)
    clear hown hg
    by_cases hlt : k + 1 < s.size
    · have hkk : (k : Int) + 1 < (s.size : Int) := by omega
      have hlk : k < s.size := by omega
      by_cases hz : ((s[k].toNat : Int) == 0) = true
      · have hz1 : s[k] = 0 := of_decide_eq_true ((byte_zero s[k]).symm.trans hz)
        have HZ : Hid (s[k] = 0) := hz1
        clear hz1
        by_cases h1 : ((s[k + 1].toNat : Int) == 1) = true
        · have h11 : s[k + 1] = 1 := of_decide_eq_true ((byte_is s[k + 1] 1).symm.trans h1)
          have H1 : Hid (s[k + 1] = 1) := h11
          clear h11
          have hcv := conv_own HO.out
          go_wp2
          exact bodyPost_ret (v := .tuple #[.agg #[.int .i64 3, .int .i64 0, .string ⟨t.toArray⟩], .int .i64 ((k : Int) + 2)]) (by simp [results, Try.results94, go_sem, c10, c11, c12, c00, c01, c02]) rfl
            ⟨⟨⟨3, 0, ⟨t.toArray⟩⟩, k + 2, rfl, by omega, ⟨⟨by show (-9223372036854775808 : Int) ≤ 0; decide, by show (0 : Int) ≤ 9223372036854775807; decide⟩, by show t.toArray.size ≤ maxLen; unfold maxLen; simp; omega⟩, reads_text s hs HH.out t k hlt HG.out HZ.out H1.out⟩, by repeat (first | exact hbl | (refine Below.setCell ?_ (by simp) _))⟩
        · have h1' : ((s[k + 1].toNat : Int) == 1) = false := by simpa using h1
          have H1 : Hid (¬ s[k + 1] = 1) := of_decide_eq_false ((byte_is s[k + 1] 1).symm.trans h1')
          go_wp2_with (at_builtin; refine append_byteL rfl (.tmp 82) (.tmp 83) rfl (w.heap.size + 2) _ t rfl _ HO.out _ 0 rfl _ rfl rfl (by omega) hbr ?_; intro v' w1 hown1 hgrow1)
          go_roundw
          case rel => exact ⟨k + 1 + 1, t ++ [0], by omega, by omega, by simp; omega, by go_num, hown1, below_append hnx hbr HO.out hgrow1, good_zero HG.out hlt HZ.out H1.out⟩
          case measure => simp [intOf]; omega
      · have hz' : ((s[k].toNat : Int) == 0) = false := by simpa using hz
        have HZ : Hid (¬ s[k] = 0) := of_decide_eq_false ((byte_zero s[k]).symm.trans hz')
        go_wp2_with (at_builtin; refine append_byteL rfl (.tmp 65) (.tmp 69) rfl (w.heap.size + 2) _ t rfl _ HO.out _ s[k] rfl _ rfl rfl (by omega) hbr ?_; intro v' w1 hown1 hgrow1)
        go_roundw
        case rel => exact ⟨k + 1, t ++ [s[k]], by omega, by omega, by simp; omega, by go_num, hown1, below_append hnx hbr HO.out hgrow1, good_byte HG.out hlk HZ.out⟩
        case measure => simp [intOf]; omega
    · have HN : Hid (noCell s.data.toList) := by
        show noCell s.data.toList
        rw [list_tail s hs, HH.out]
        exact no_text (good_none HG.out (by omega))
      have hkk : decide ((k : Int) + 1 < (s.size : Int)) = false := decide_eq_false (by omega)
      go_wp2
      exact bodyPost_ret (v := .tuple #[.agg #[.int .i64 3, .int .i64 0, .string ⟨#[]⟩], .int .i64 0]) (by simp [results, Try.results94, go_sem, c10, c11, c12, c00, c01, c02]) rfl
        ⟨⟨⟨3, 0, ⟨#[]⟩⟩, 0, rfl, Nat.zero_le _, wf0 _ _ (by decide) (by decide), reads_no HN.out _ _⟩, by repeat (first | exact hbl | (refine Below.setCell ?_ (by simp) _))⟩

theorem front_any (s : ByteArray) (w : World) (hm : s.size ≤ 140737488355328) :
    Calls Try.prog 94 #[.string s] w fun e w' => frontRes s e ∧ Below w.heap.size w w' := by
  have hm' : s.size ≤ maxLen := by unfold maxLen; omega
  by_cases hs : s.size = 0
  · exact front_empty s w hs
  · have hs' : 0 < s.size := by omega
    by_cases h0 : s[0] = 0
    · exact front_null s w hs' hm' h0
    · by_cases h1 : s[0] = 1
      · by_cases hz : 1 < s.size
        · exact front_bool s w hs' hm' h1 hz
        · exact front_bool0 s w hs' hm' h1 hz
      · by_cases h2 : s[0] = 2
        · by_cases hz : 8 < s.size
          · exact front_int s w hs' hm' h2 hz
          · exact front_int0 s w hs' hm' h2 hz
        · by_cases h3 : s[0] = 3
          · exact front_text s w hs' hm h3
          · exact front_other s w hs' hm' h0 h1 h2 h3
end Go.Proofs.Ytnfknkihiapgiaa.vl

/- The reference's Back: the row of a key; other bytes: none. -/
namespace Go.Proofs.Ytnfknkihiapgiaa.vl
open Go.ChangeShapes Go.WideShapes Go.ChangeAt Go.RowKit
set_option linter.unusedVariables false
set_option linter.unusedSimpArgs false

theorem extract_list (q : ByteArray) (m : Nat) : (q.extract m q.size).data.toList = q.data.toList.drop m := Lib.extract_to_end q m
theorem extract_size (q : ByteArray) (m : Nat) : (q.extract m q.size).size = q.size - m := by rw [ByteArray.size_extract]; omega

set_option maxRecDepth 10000 in
set_option maxHeartbeats 4000000 in
theorem rback_yes (s : ByteArray) (r : List Cel) (w : World) (hm : s.size ≤ 140737488355328) (hr : rowOk r) (hk : encR r = s.data.toList) :
    Calls Try.prog 70 #[.string s] w fun e w' => (∃ ad cap, e = .returned (.tuple #[.slice ad r.length cap, .bool true]) ∧ rowAt w' ad r) ∧ Below w.heap.size w w' := by
  obtain ⟨n, hn⟩ : ∃ n, r.length = n := ⟨_, rfl⟩
  have HN : Hid (r.length = n) := hn
  have h8 := hr.1
  have HOKR : Hid (rowOk r) := hr
  have HKS : Hid (encR r = s.data.toList) := hk
  have KE : Hid (∀ w ad cap, rowAt w ad r → Calls Try.prog 69 #[.slice ad n cap] w fun e w' => e = .returned (.int .i64 0) ∧ Below w.heap.size w w') := by
    subst hn
    intro w ad cap h
    exact (keyError_any ad cap r w h (wfRow_ok hr) (by omega)).mono fun e w' ⟨he, hb⟩ => ⟨he.trans (ret_int (keyErr_ok hr)), hb⟩
  have KK : Hid (∀ w ad cap, rowAt w ad r → Calls Try.prog 95 #[.slice ad n cap] w fun e w' => e = .returned (.string s) ∧ Below w.heap.size w w') := by
    subst hn
    intro w ad cap h
    have e : (⟨(encR r).toArray⟩ : ByteArray) = s := str_eq hk
    rw [← e]
    exact rkey_any ad cap r w h hr
  rw [hn] at h8 ⊢
  clear hn hr hk
  go_enter Try.func70, Try.ntmps70
  go_wp2
  go_loopw [4, 5] (fun v t wr => ∃ (j : Nat) (q : ByteArray), j ≤ n ∧ t = .string q ∧ q.size ≤ s.size ∧ ownV wr w.heap.size v (r.take j) ∧ Below w.heap.size w wr ∧ q.data.toList = encR (r.drop j)) (fun _ t _ => strLen t)
  case atStart => exact ⟨0, s, Nat.zero_le _, rfl, Nat.le_refl _, World.ownsRow_nil _ _ _ _, Below.refl _ _, HKS.out.symm⟩
  case round =>
    obtain ⟨j, q, hj, rfl, hq, hown, hnx, hql⟩ := hrel
    have hlj : (r.take j).length = j := by rw [List.length_take, HN.out]; omega
    obtain ⟨ad, cap, hv⟩ := ownV_form hown
    rw [hlj] at hv
    subst hv
    have HO : Hid (ownV wr w.heap.size (.slice ad j cap) (r.take j)) := hown
    have HQ : Hid (q.data.toList = encR (r.drop j)) := hql
    have hsz := hnx.size
    clear hown hql hlj
    by_cases hlt : j < n
    · have hj8 : ((j : Nat) : Int) ≤ 8 := by omega
      have hc0 := HOKR.out.2 (r.getD j default) (by simp [List.getD_eq_getElem?_getD, show j < r.length by rw [HN.out]; exact hlt])
      have HL : Hid (q.data.toList = encC (r.getD j default) ++ encR (r.drop (j + 1))) := by
        show q.data.toList = _
        rw [HQ.out, drop_getD r j (by rw [HN.out]; exact hlt)]; rfl
      have HT : Hid (r.take (j + 1) = r.take j ++ [r.getD j default]) := take_getD r j (by rw [HN.out]; exact hlt)
      have hpos : 0 < (encC (r.getD j default)).length := List.length_pos_iff.2 (encC_ne hc0.1)
      have hz : 0 < q.size := by
        have h1 := congrArg List.length HL.out
        rw [List.length_append, list_len] at h1
        omega
      go_wp2_with fail
      refine (front_any q _ (by omega)).mono ?_
      rintro e w1 ⟨⟨c, m, rfl, hmq, hwf, hrd⟩, hb1⟩
      obtain ⟨ec, em⟩ := hrd _ _ hc0.1 hc0.2 HL.out
      have HEC : Hid (c = r.getD j default) := ec
      have HEM : Hid (m = (encC (r.getD j default)).length) := em
      have hm0 : 0 < m := by omega
      have hmz : ((m : Int) == 0) = false := by rw [beq_eq_false_iff_ne]; omega
      have hmi : (m : Int) ≤ (q.size : Int) := by omega
      clear ec em hrd hwf hc0 hpos
      obtain ⟨k, nn, t⟩ := c
      have hl1 := hnx.trans (hb1.mono hsz)
      have ho1 := ownV_below HO.out hb1
      go_wp2_with (at_builtin; refine append_cell rfl (.tmp 24) (.tmp 26) rfl w.heap.size _ (r.take j) rfl _ (ownV_alloc ho1 _) ⟨k, nn, t⟩ (w1.heap.size + 1) (by simp) rfl (by rw [List.length_take]; omega) (by have := hl1.size; simp; omega) ?_; intro v' w2 hown2 hgrow2)
      go_roundw
      case rel => exact ⟨j + 1, _, by omega, rfl, by rw [extract_size]; omega, by rw [HT.out, ← HEC.out]; exact hown2, below_appendV (hl1.alloc hl1.size _) (by have := hl1.size; simp; omega) (ownV_alloc ho1 _) hgrow2, by rw [extract_list, HL.out, HEM.out, List.drop_left]⟩
      case measure => show (q.extract m q.size).size < q.size; rw [extract_size]; omega
    · have hjn : j = n := by omega
      subst hjn
      have hre : r.take j = r := List.take_of_length_le (by rw [HN.out]; omega)
      have HO2 : Hid (ownV wr w.heap.size (.slice ad j cap) r) := by have h := HO.out; rw [hre] at h; exact h
      have hqz : ¬ 0 < q.size := by
        have h1 := congrArg List.length HQ.out
        rw [list_len, List.drop_of_length_le (by rw [HN.out]; omega)] at h1
        have h2 : (encR ([] : List Cel)).length = 0 := rfl
        rw [h2] at h1
        omega
      have hqd : decide ((0 : Int) < (q.size : Int)) = false := decide_eq_false (by omega)
      have HRA : Hid (rowAt wr ad r) := ownV_row (r := r) (cap := cap) (by rw [HN.out]; exact HO2.out)
      clear hre HO
      go_wp2_with fail
      refine (KE.out _ ad cap HRA.out).mono ?_
      rintro e wk ⟨rfl, hbk⟩
      have HRB : Hid (rowAt wk ad r) := rowAt_below HRA.out hbk
      have hl1 := hnx.trans (hbk.mono hsz)
      go_wp2_with fail
      refine (KK.out _ ad cap HRB.out).mono ?_
      rintro e wl ⟨rfl, hbl⟩
      have HRC : Hid (rowAt wl ad r) := rowAt_below HRB.out hbl
      have hl2 := hl1.trans (hbl.mono hl1.size)
      go_wp2
      go_ret2
      exact ⟨⟨ad, cap, rfl, HRC.out⟩, hl2⟩

theorem ne_str {r : List Cel} {s : ByteArray} (h : encR r ≠ s.data.toList) : ((⟨(encR r).toArray⟩ : ByteArray).toList == s.toList) = false := by
  rw [Lib.toList_data, Lib.toList_data, beq_eq_false_iff_ne]
  exact h
theorem rowOk_key2 {r : List Cel} (h : keyErr r = 0) (hw : wfRow r) : rowOk r := by
  unfold keyErr at h
  split at h
  · cases h
  · rename_i h8
    exact ⟨by omega, fun c hc => ⟨all_ok h c hc, hw c hc⟩⟩

set_option maxRecDepth 10000 in
set_option maxHeartbeats 4000000 in
theorem rback_no (s : ByteArray) (w : World) (hm : s.size ≤ 140737488355328) (hn : noKey s.data.toList) :
    Calls Try.prog 70 #[.string s] w fun e w' => e = .returned (.tuple #[.slice none 0 0, .bool false]) ∧ Below w.heap.size w w' := by
  have NK : Hid (noKey s.data.toList) := hn
  clear hn
  go_enter Try.func70, Try.ntmps70
  go_wp2
  go_loopw [4, 5] (fun v t wr => ∃ (r : List Cel) (q : ByteArray), t = .string q ∧ q.size ≤ s.size ∧ ownV wr w.heap.size v r ∧ Below w.heap.size w wr ∧ r.length ≤ 9 ∧ wfRow r) (fun _ t _ => strLen t)
  case atStart => exact ⟨[], s, rfl, Nat.le_refl _, World.ownsRow_nil _ _ _ _, Below.refl _ _, by simp, fun c hc => by cases hc⟩
  case round =>
    obtain ⟨r, q, rfl, hq, hown, hnx, h9, hwf⟩ := hrel
    obtain ⟨ad, cap, hv⟩ := ownV_form hown
    subst hv
    have HO : Hid (ownV wr w.heap.size (.slice ad r.length cap) r) := hown
    have HW : Hid (wfRow r) := hwf
    have HRA : Hid (rowAt wr ad r) := ownV_row hown
    have hsz := hnx.size
    clear hown hwf
    by_cases hz : 0 < q.size
    · by_cases h8 : r.length ≤ 8
      · have h8' : ((r.length : Nat) : Int) ≤ 8 := by omega
        go_wp2_with fail
        refine (front_any q _ (by omega)).mono ?_
        rintro e w1 ⟨⟨c, m, rfl, hmq, hcw, _⟩, hb1⟩
        have HCW : Hid (c.wf) := hcw
        have hl1 := hnx.trans (hb1.mono hsz)
        have ho1 := ownV_below HO.out hb1
        have hmi : (m : Int) ≤ (q.size : Int) := by omega
        clear hcw
        obtain ⟨k, nn, t⟩ := c
        by_cases hm0 : m = 0
        · subst hm0
          go_wp2
          go_ret2
          exact ⟨rfl, hl1.alloc hl1.size _⟩
        · have hmz : ((m : Int) == 0) = false := by rw [beq_eq_false_iff_ne]; omega
          go_wp2_with (at_builtin; refine append_cell rfl (.tmp 24) (.tmp 26) rfl w.heap.size _ r rfl _ (ownV_alloc ho1 _) ⟨k, nn, t⟩ (w1.heap.size + 1) (by simp) rfl (by omega) (by have := hl1.size; simp; omega) ?_; intro v' w2 hown2 hgrow2)
          go_roundw
          case rel => exact ⟨r ++ [⟨k, nn, t⟩], _, rfl, by rw [extract_size]; omega, hown2, below_appendV (hl1.alloc hl1.size _) (by have := hl1.size; simp; omega) (ownV_alloc ho1 _) hgrow2, by rw [List.length_append]; simp; omega, fun c hc => by
            rcases List.mem_append.1 hc with h | h
            · exact HW.out c h
            · rw [List.mem_singleton.1 h]; exact HCW.out⟩
          case measure => show (q.extract m q.size).size < q.size; rw [extract_size]; omega
      · have h8' : decide (((r.length : Nat) : Int) ≤ 8) = false := decide_eq_false (by omega)
        by_cases he : keyErr r = 0
        · have hok2 := rowOk_key2 he HW.out
          have hne := ne_str (NK.out r hok2)
          have KK : Hid (∀ w, rowAt w ad r → Calls Try.prog 95 #[.slice ad r.length cap] w fun e w' => e = .returned (.string ⟨(encR r).toArray⟩) ∧ Below w.heap.size w w') := fun w h => rkey_any ad cap r w h hok2
          have KE : Hid (∀ w, rowAt w ad r → Calls Try.prog 69 #[.slice ad r.length cap] w fun e w' => e = .returned (.int .i64 0) ∧ Below w.heap.size w w') := fun w h =>
            (keyError_any ad cap r w h HW.out (by omega)).mono fun e w' ⟨he', hb⟩ => ⟨he'.trans (ret_int he), hb⟩
          obtain ⟨x, hx⟩ : ∃ x, (⟨(encR r).toArray⟩ : ByteArray) = x := ⟨_, rfl⟩
          rw [hx] at hne KK
          clear hok2 hx he
          go_wp2_with fail
          refine (KE.out _ HRA.out).mono ?_
          rintro e wk ⟨rfl, hbk⟩
          have HRB : Hid (rowAt wk ad r) := rowAt_below HRA.out hbk
          have hl1 := hnx.trans (hbk.mono hsz)
          go_wp2_with fail
          refine (KK.out _ HRB.out).mono ?_
          rintro e wl ⟨rfl, hbl⟩
          have hl2 := hl1.trans (hbl.mono hl1.size)
          go_wp2
          go_ret2
          exact ⟨rfl, hl2⟩
        · have he' : (keyErr r == 0) = false := by simpa using he
          have KE : Hid (∀ w, rowAt w ad r → Calls Try.prog 69 #[.slice ad r.length cap] w fun e w' => e = .returned (.int .i64 (keyErr r)) ∧ Below w.heap.size w w') := fun w h => keyError_any ad cap r w h HW.out (by omega)
          go_wp2_with fail
          refine (KE.out _ HRA.out).mono ?_
          rintro e wk ⟨rfl, hbk⟩
          have hl1 := hnx.trans (hbk.mono hsz)
          go_wp2
          go_ret2
          exact ⟨rfl, hl1⟩
    · have hqd : decide ((0 : Int) < (q.size : Int)) = false := decide_eq_false (by omega)
      by_cases he : keyErr r = 0
      · have hok2 := rowOk_key2 he HW.out
        have hne := ne_str (NK.out r hok2)
        have KK : Hid (∀ w, rowAt w ad r → Calls Try.prog 95 #[.slice ad r.length cap] w fun e w' => e = .returned (.string ⟨(encR r).toArray⟩) ∧ Below w.heap.size w w') := fun w h => rkey_any ad cap r w h hok2
        have KE : Hid (∀ w, rowAt w ad r → Calls Try.prog 69 #[.slice ad r.length cap] w fun e w' => e = .returned (.int .i64 0) ∧ Below w.heap.size w w') := fun w h =>
          (keyError_any ad cap r w h HW.out (by omega)).mono fun e w' ⟨he', hb⟩ => ⟨he'.trans (ret_int he), hb⟩
        obtain ⟨x, hx⟩ : ∃ x, (⟨(encR r).toArray⟩ : ByteArray) = x := ⟨_, rfl⟩
        rw [hx] at hne KK
        clear hok2 hx he
        go_wp2_with fail
        refine (KE.out _ HRA.out).mono ?_
        rintro e wk ⟨rfl, hbk⟩
        have HRB : Hid (rowAt wk ad r) := rowAt_below HRA.out hbk
        have hl1 := hnx.trans (hbk.mono hsz)
        go_wp2_with fail
        refine (KK.out _ HRB.out).mono ?_
        rintro e wl ⟨rfl, hbl⟩
        have hl2 := hl1.trans (hbl.mono hl1.size)
        go_wp2
        go_ret2
        exact ⟨rfl, hl2⟩
      · have he' : (keyErr r == 0) = false := by simpa using he
        have KE : Hid (∀ w, rowAt w ad r → Calls Try.prog 69 #[.slice ad r.length cap] w fun e w' => e = .returned (.int .i64 (keyErr r)) ∧ Below w.heap.size w w') := fun w h => keyError_any ad cap r w h HW.out (by omega)
        go_wp2_with fail
        refine (KE.out _ HRA.out).mono ?_
        rintro e wk ⟨rfl, hbk⟩
        have hl1 := hnx.trans (hbk.mono hsz)
        go_wp2
        go_ret2
        exact ⟨rfl, hl1⟩
end Go.Proofs.Ytnfknkihiapgiaa.vl

/- What the functions of package times (and their mirrors in the reference) do, one contract each: Fits, allFit, Until, Meets, Window, Add and the fixed examples of timesBegun. -/
namespace Go.Proofs.Ytnfknkihiapgiaa.tm
open Go.ChangeShapes Go.WideShapes Go.ChangeAt Go.RowKit
set_option linter.unusedVariables false

/-- a time: from -2^40 to 2^40 -/
def fitB (t : Int) : Bool := decide (-1099511627776 ≤ t ∧ t ≤ 1099511627776)
theorem fit_iff (t : Int) : fitB t = true ↔ (-1099511627776 ≤ t ∧ t ≤ 1099511627776) := by simp [fitB]
theorem fit_no (t : Int) : fitB t = false ↔ ¬ (-1099511627776 ≤ t ∧ t ≤ 1099511627776) := by
  unfold fitB; exact decide_eq_false_iff_not

theorem fits_any (t : Int) (w : World) :
    Calls Try.prog 60 #[.int .i64 t] w fun e w' => e = .returned (.bool (fitB t)) ∧ w' = w := by
  by_cases h1 : -1099511627776 ≤ t
  · by_cases h2 : t ≤ 1099511627776
    · have hf : fitB t = true := (fit_iff t).2 ⟨h1, h2⟩
      rw [hf]
      go_enter Try.func60, Try.ntmps60
      go_wp2
      go_ret
      exact ⟨rfl, rfl⟩
    · have hf : fitB t = false := (fit_no t).2 (by omega)
      rw [hf]
      go_enter Try.func60, Try.ntmps60
      go_wp2
      go_ret
      exact ⟨rfl, rfl⟩
  · have hf : fitB t = false := (fit_no t).2 (by omega)
    rw [hf]
    go_enter Try.func60, Try.ntmps60
    go_wp2
    go_ret
    exact ⟨rfl, rfl⟩

theorem rfits_any (t : Int) (w : World) :
    Calls Try.prog 68 #[.int .i64 t] w fun e w' => e = .returned (.bool (fitB t)) ∧ w' = w := by
  by_cases h1 : -1099511627776 ≤ t
  · by_cases h2 : t ≤ 1099511627776
    · have hf : fitB t = true := (fit_iff t).2 ⟨h1, h2⟩
      rw [hf]
      go_enter Try.func68, Try.ntmps68
      go_wp2
      go_ret
      exact ⟨rfl, rfl⟩
    · have hf : fitB t = false := (fit_no t).2 (by omega)
      rw [hf]
      go_enter Try.func68, Try.ntmps68
      go_wp2
      go_ret
      exact ⟨rfl, rfl⟩
  · have hf : fitB t = false := (fit_no t).2 (by omega)
    rw [hf]
    go_enter Try.func68, Try.ntmps68
    go_wp2
    go_ret
    exact ⟨rfl, rfl⟩

theorem all_snoc (zs : List Int) (k : Nat) (h : k < zs.length) : (zs.take (k + 1)).all fitB = ((zs.take k).all fitB && fitB (zs[k]?.getD 0)) := by
  rw [List.take_succ_eq_append_getElem h, List.all_append, List.getElem?_eq_getElem h]
  simp only [List.all_cons, List.all_nil, Bool.and_true, Option.getD_some]
theorem all_no (zs : List Int) (k : Nat) (h : k < zs.length) (hf : fitB (zs[k]?.getD 0) = false) : zs.all fitB = false := by
  rw [List.all_eq_false]
  exact ⟨zs[k], List.getElem_mem h, by simpa [List.getElem?_eq_getElem h] using hf⟩

end Go.Proofs.Ytnfknkihiapgiaa.tm
