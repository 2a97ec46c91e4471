/- readCell reads the one cell that a key begins with. -/
import Derived.Test.YtibjihdeknndoaaValInt
namespace Go.Proofs.Ytibjihdeknndoaa.vl
open Go.ChangeShapes Go.WideShapes Go.ChangeAt Go.RowKit
set_option linter.unusedVariables false
set_option linter.unusedSimpArgs false

/-- no right cell begins here -/
def noCell (l : List UInt8) : Prop := ∀ (d : Cel) t, d.ok → d.wf → l ≠ encC d ++ t
def resOk (l : List UInt8) (c : Cel) (rs : ByteArray) (ok : Bool) : Prop := (ok = true ∧ c.ok ∧ l = encC c ++ rs.data.toList) ∨ ((ok = false ∨ ¬ c.ok) ∧ noCell l)
/-- what readCell hands back of bytes that are not none -/
def cellRes (l : List UInt8) (e : Ending) : Prop := ∃ (c : Cel) (rs : ByteArray) (ok : Bool), e = .returned (.tuple #[.agg #[.int .i64 c.k, .int .i64 c.n, .string c.s], .string rs, .bool ok]) ∧
  c.wf ∧ resOk l c rs ok

theorem wf0 (k n : Int) (h1 : -9223372036854775808 ≤ n) (h2 : n ≤ 9223372036854775807) : (⟨k, n, ⟨#[]⟩⟩ : Cel).wf := ⟨⟨h1, h2⟩, Nat.zero_le _⟩
theorem wf3 {tx : ByteArray} (h : tx.size ≤ 65) : (⟨3, 0, tx⟩ : Cel).wf := ⟨⟨by show (-9223372036854775808 : Int) ≤ 0; decide, by show (0 : Int) ≤ 9223372036854775807; decide⟩, by show tx.size ≤ maxLen; unfold maxLen; omega⟩
theorem chk_ok (k n : Int) (s : ByteArray) (h : chk k n s = 0) : (⟨k, n, s⟩ : Cel).ok := h

theorem no_head {b : UInt8} {l : List UInt8} (h0 : b ≠ 0) (h1 : b ≠ 1) (h2 : b ≠ 2) (h3 : b ≠ 3) : noCell (b :: l) := by
  intro d t hd hw h
  rcases encC_cases hd with ⟨_, e⟩ | ⟨_, e⟩ | ⟨_, e⟩ | ⟨n, _, e⟩ | ⟨s, _, _, e⟩ <;> rw [e] at h <;> simp at h
  · exact h0 h.1
  · exact h1 h.1
  · exact h1 h.1
  · exact h2 h.1
  · exact h3 h.1
theorem no_bool0 : noCell [1] := by
  intro d t hd hw h
  rcases encC_cases hd with ⟨_, e⟩ | ⟨_, e⟩ | ⟨_, e⟩ | ⟨n, _, e⟩ | ⟨s, _, _, e⟩ <;> rw [e] at h <;> simp at h
theorem no_bool {b : UInt8} {l : List UInt8} (h0 : b ≠ 0) (h1 : b ≠ 1) : noCell (1 :: b :: l) := by
  intro d t hd hw h
  rcases encC_cases hd with ⟨_, e⟩ | ⟨_, e⟩ | ⟨_, e⟩ | ⟨n, _, e⟩ | ⟨s, _, _, e⟩ <;> rw [e] at h <;> simp at h
  · exact h0 h.1
  · exact h1 h.1
theorem no_int {l : List UInt8} (hl : l.length < 8) : noCell (2 :: l) := by
  intro d t hd hw h
  rcases encC_cases hd with ⟨_, e⟩ | ⟨_, e⟩ | ⟨_, e⟩ | ⟨n, _, e⟩ | ⟨s, _, _, e⟩ <;> rw [e] at h <;> simp at h
  have := congrArg List.length h
  rw [List.length_append, be8_len] at this
  omega
theorem no_text {l : List UInt8} (hl : noText l) : noCell (3 :: l) := by
  intro d t hd hw h
  rcases encC_cases hd with ⟨_, e⟩ | ⟨_, e⟩ | ⟨_, e⟩ | ⟨n, _, e⟩ | ⟨s, _, hs, e⟩ <;> rw [e] at h <;> simp at h
  exact hl s.data.toList t (by rw [list_len]; exact hs) (by simpa using h)
theorem no_long_text {l tx rs : List UInt8} (h : l = encT tx ++ 0 :: 1 :: rs) (hl : 64 < tx.length) : noText l := no_long h hl

theorem int_list (l : List UInt8) (hl : 8 ≤ l.length) : 2 :: l = encC ⟨2, (beVal (l.take 8) : Int) - 9223372036854775808, ⟨#[]⟩⟩ ++ l.drop 8 := by
  have e : (((beVal (l.take 8) : Int) - 9223372036854775808) + 9223372036854775808).toNat = beVal (l.take 8) := by omega
  have e2 : encC ⟨2, (beVal (l.take 8) : Int) - 9223372036854775808, ⟨#[]⟩⟩ = 2 :: be8 (((beVal (l.take 8) : Int) - 9223372036854775808) + 9223372036854775808).toNat 8 := rfl
  rw [e2, e, be8_beVal _ (by rw [List.length_take]; omega), List.cons_append, List.take_append_drop]
theorem list_head (s : ByteArray) (h : 0 < s.size) : s.data.toList = s[0] :: (s.extract 1 s.size).data.toList := by
  rw [Lib.extract_to_end]
  have := drop_cons s 0 h
  simpa using this

attribute [local go_sem ↓] Go.wp_at_zero Go.wp_at_succ
theorem chk_bool (b : UInt8) (h : b = 0 ∨ b = 1) : (⟨1, (b.toNat : Int), ⟨#[]⟩⟩ : Cel).ok ∧ encC ⟨1, (b.toNat : Int), ⟨#[]⟩⟩ = [1, b] := by
  rcases h with rfl | rfl <;> exact ⟨chk_ok _ _ _ (by decide), rfl⟩
theorem chk_nobool (b : UInt8) (h0 : b ≠ 0) (h1 : b ≠ 1) : ¬ (⟨1, (b.toNat : Int), ⟨#[]⟩⟩ : Cel).ok := by
  intro h
  obtain ⟨_, hk⟩ := chk_cases h
  dsimp only at hk
  have e0 : b.toNat ≠ 0 := fun e => h0 (byte_eq e)
  have e1 : b.toNat ≠ 1 := fun e => h1 (byte_eq e)
  omega
theorem bool_res (s r : ByteArray) (hs : 0 < s.size) (hre : s.extract 1 s.size = r) (h0 : s[0] = 1) (hr0 : 0 < r.size) :
    resOk s.data.toList ⟨1, (r[0].toNat : Int), ⟨#[]⟩⟩ (r.extract 1 r.size) true := by
  have e : s.data.toList = (1 : UInt8) :: r[0] :: (r.extract 1 r.size).data.toList := by rw [list_head s hs, h0, hre, ← list_head r hr0]
  by_cases hb : r[0] = 0 ∨ r[0] = 1
  · obtain ⟨h1, h2⟩ := chk_bool r[0] hb
    exact .inl ⟨rfl, h1, by rw [h2, e]; rfl⟩
  · have hb0 : r[0] ≠ 0 := fun h => hb (.inl h)
    have hb1 : r[0] ≠ 1 := fun h => hb (.inr h)
    exact .inr ⟨.inr (chk_nobool _ hb0 hb1), by rw [e]; exact no_bool hb0 hb1⟩

theorem extract_zero (s : ByteArray) (k : Nat) : (s.extract 0 k).data.toList = s.data.toList.take k := by
  simp [ByteArray.data_extract, Array.toList_extract]
theorem int_ok (n : Int) : (⟨2, n, ⟨#[]⟩⟩ : Cel).ok := by
  refine chk_ok _ _ _ ?_
  unfold chk
  have e : (⟨#[]⟩ : ByteArray).size = 0 := rfl
  rw [e, if_neg (by omega), if_neg (by omega), if_neg (by omega)]

theorem text_res (s r tx rs : ByteArray) (ok : Bool) (hs : 0 < s.size) (hre : s.extract 1 s.size = r) (h0 : s[0] = 3)
    (h : (ok = true ∧ r.data.toList = encT tx.data.toList ++ 0 :: 1 :: rs.data.toList) ∨ (ok = false ∧ noText r.data.toList)) :
    resOk s.data.toList ⟨3, 0, tx⟩ rs ok := by
  have e : s.data.toList = (3 : UInt8) :: r.data.toList := by rw [list_head s hs, h0, hre]
  rcases h with ⟨rfl, h⟩ | ⟨rfl, h⟩
  · by_cases hl : tx.size ≤ 64
    · refine .inl ⟨rfl, chk_ok _ _ _ ?_, ?_⟩
      · unfold chk; rw [if_neg (by omega), if_neg (by omega), if_neg (by omega)]
      · rw [e, h]; show _ = (3 :: (encT tx.data.toList ++ [0, 1])) ++ _; simp
    · refine .inr ⟨.inr ?_, ?_⟩
      · intro hc
        have := (chk_cases hc).1
        exact hl this
      · rw [e]; exact no_text (no_long h (by rw [list_len]; omega))
  · exact .inr ⟨.inl rfl, by rw [e]; exact no_text h⟩

end Go.Proofs.Ytibjihdeknndoaa.vl
