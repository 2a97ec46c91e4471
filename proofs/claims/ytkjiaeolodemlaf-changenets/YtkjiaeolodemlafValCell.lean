/- readCell reads the one cell that a key begins with. -/
import Derived.Test.YtkjiaeolodemlafValInt
namespace Go.Proofs.Ytkjiaeolodemlaf.vl
open Go.ChangeShapes Go.WideShapes Go.ChangeAt Go.RowKit
set_option linter.unusedVariables false
set_option linter.unusedSimpArgs false

/-- no right cell begins here -/
def noCell (l : List UInt8) : Prop := ∀ (d : Cel) t, d.ok → d.wf → l ≠ encC d ++ t
def resOk (l : List UInt8) (c : Cel) (rs : ByteArray) (ok : Bool) : Prop := (ok = true ∧ c.ok ∧ l = encC c ++ rs.data.toList) ∨ ((ok = false ∨ ¬ c.ok) ∧ noCell l)
/-- what readCell hands back of bytes that are not none -/
def cellRes (l : List UInt8) (e : Ending) : Prop := ∃ (c : Cel) (rs : ByteArray) (ok : Bool), e = .returned (.tuple #[.agg #[.int .i64 c.k, .int .i64 c.n, .string c.s], .string rs, .bool ok]) ∧
  c.wf ∧ resOk l c rs ok

theorem wf0 (k n : Int) (h1 : -9223372036854775808 ≤ n) (h2 : n ≤ 9223372036854775807) : (⟨k, n, ⟨#[]⟩⟩ : Cel).wf := ⟨⟨h1, h2⟩, Nat.zero_le _⟩
theorem wf3 {tx : ByteArray} (h : tx.size ≤ 65) : (⟨3, 0, tx⟩ : Cel).wf := ⟨⟨by show (-9223372036854775808 : Int) ≤ 0; decide, by show (0 : Int) ≤ 9223372036854775807; decide⟩, by show tx.size ≤ maxLen; unfold maxLen; omega⟩
theorem chk_ok (k n : Int) (s : ByteArray) (h : chk k n s = 0) : (⟨k, n, s⟩ : Cel).ok := h

theorem no_head {b : UInt8} {l : List UInt8} (h0 : b ≠ 0) (h1 : b ≠ 1) (h2 : b ≠ 2) (h3 : b ≠ 3) : noCell (b :: l) := by
  intro d t hd hw h
  rcases encC_cases hd with ⟨_, e⟩ | ⟨_, e⟩ | ⟨_, e⟩ | ⟨n, _, e⟩ | ⟨s, _, _, e⟩ <;> rw [e] at h <;> simp at h
  · exact h0 h.1
  · exact h1 h.1
  · exact h1 h.1
  · exact h2 h.1
  · exact h3 h.1
theorem no_bool0 : noCell [1] := by
  intro d t hd hw h
  rcases encC_cases hd with ⟨_, e⟩ | ⟨_, e⟩ | ⟨_, e⟩ | ⟨n, _, e⟩ | ⟨s, _, _, e⟩ <;> rw [e] at h <;> simp at h
theorem no_bool {b : UInt8} {l : List UInt8} (h0 : b ≠ 0) (h1 : b ≠ 1) : noCell (1 :: b :: l) := by
  intro d t hd hw h
  rcases encC_cases hd with ⟨_, e⟩ | ⟨_, e⟩ | ⟨_, e⟩ | ⟨n, _, e⟩ | ⟨s, _, _, e⟩ <;> rw [e] at h <;> simp at h
  · exact h0 h.1
  · exact h1 h.1
theorem no_int {l : List UInt8} (hl : l.length < 8) : noCell (2 :: l) := by
  intro d t hd hw h
  rcases encC_cases hd with ⟨_, e⟩ | ⟨_, e⟩ | ⟨_, e⟩ | ⟨n, _, e⟩ | ⟨s, _, _, e⟩ <;> rw [e] at h <;> simp at h
  have := congrArg List.length h
  rw [List.length_append, be8_len] at this
  omega
theorem no_text {l : List UInt8} (hl : noText l) : noCell (3 :: l) := by
  intro d t hd hw h
  rcases encC_cases hd with ⟨_, e⟩ | ⟨_, e⟩ | ⟨_, e⟩ | ⟨n, _, e⟩ | ⟨s, _, hs, e⟩ <;> rw [e] at h <;> simp at h
  exact hl s.data.toList t (by rw [list_len]; exact hs) (by simpa using h)
theorem no_long_text {l tx rs : List UInt8} (h : l = encT tx ++ 0 :: 1 :: rs) (hl : 64 < tx.length) : noText l := no_long h hl

theorem int_list (l : List UInt8) (hl : 8 ≤ l.length) : 2 :: l = encC ⟨2, (beVal (l.take 8) : Int) - 9223372036854775808, ⟨#[]⟩⟩ ++ l.drop 8 := by
  have e : (((beVal (l.take 8) : Int) - 9223372036854775808) + 9223372036854775808).toNat = beVal (l.take 8) := by omega
  have e2 : encC ⟨2, (beVal (l.take 8) : Int) - 9223372036854775808, ⟨#[]⟩⟩ = 2 :: be8 (((beVal (l.take 8) : Int) - 9223372036854775808) + 9223372036854775808).toNat 8 := rfl
  rw [e2, e, be8_beVal _ (by rw [List.length_take]; omega), List.cons_append, List.take_append_drop]
theorem list_head (s : ByteArray) (h : 0 < s.size) : s.data.toList = s[0] :: (s.extract 1 s.size).data.toList := by
  rw [Lib.extract_to_end]
  have := drop_cons s 0 h
  simpa using this

attribute [local go_sem ↓] Go.wp_at_zero Go.wp_at_succ
set_option maxHeartbeats 2000000 in
theorem readCell_null (s r : ByteArray) (w : World) (hs : 0 < s.size) (hm : s.size ≤ maxLen) (hre : s.extract 1 s.size = r) (h0 : s[0] = 0) :
    Calls Try.prog 56 #[.string s] w fun e w' => cellRes s.data.toList e ∧ Below w.heap.size w w' := by
  have HL : Hid (s.data.toList = s[0] :: (s.extract 1 s.size).data.toList) := list_head s hs
  have hk : (s[0].toNat : Int) = 0 := by rw [h0]; rfl
  have HH : Hid (s[0] = 0) := h0
  clear h0
  unfold maxLen at hm
  have hr : s.extract 1 s.size = r := hre
  have i0 : (0 : Int) < (s.size : Int) := by omega
  have b0 : (s[0].toNat : Int) ≤ 255 := by have := s[0].toNat_lt; omega
  go_enter Try.func56, Try.ntmps56
  go_wp2
  go_quiet (fail)
  go_wp2
  exact bodyPost_ret (v := .tuple #[.agg #[.int .i64 0, .int .i64 0, .string ⟨#[]⟩], .string r, .bool true]) (by simp [results, Try.results56, go_sem]) rfl
    ⟨⟨⟨0, 0, ⟨#[]⟩⟩, r, true, rfl, wf0 _ _ (by decide) (by decide), .inl ⟨rfl, chk_ok _ _ _ (by decide), by have h := HL.out; rw [HH.out, hr] at h; exact h⟩⟩, by repeat (first | exact Below.refl _ _ | (refine below_drewN ?_ _) | apply Below.drew | (refine Below.setCell ?_ (by simp) _) | (refine Below.alloc ?_ (by simp <;> omega) _))⟩

set_option maxHeartbeats 2000000 in
theorem readCell_other (s r : ByteArray) (w : World) (hs : 0 < s.size) (hm : s.size ≤ maxLen) (hre : s.extract 1 s.size = r) (h0 : s[0] ≠ 0) (h1 : s[0] ≠ 1) (h2 : s[0] ≠ 2) (h3 : s[0] ≠ 3) :
    Calls Try.prog 56 #[.string s] w fun e w' => cellRes s.data.toList e ∧ Below w.heap.size w w' := by
  have HL : Hid (s.data.toList = s[0] :: (s.extract 1 s.size).data.toList) := list_head s hs
  have HN : Hid (noCell s.data.toList) := by
    show noCell s.data.toList
    rw [list_head s hs]; exact no_head h0 h1 h2 h3
  have k0 : ((s[0].toNat : Int) == 0) = false := (byte_is s[0] 0).trans (decide_eq_false h0)
  have k1 : ((s[0].toNat : Int) == 1) = false := (byte_is s[0] 1).trans (decide_eq_false h1)
  have k2 : ((s[0].toNat : Int) == 2) = false := (byte_is s[0] 2).trans (decide_eq_false h2)
  have k3 : ((s[0].toNat : Int) == 3) = false := (byte_is s[0] 3).trans (decide_eq_false h3)
  clear h0 h1 h2 h3
  unfold maxLen at hm
  have hr : s.extract 1 s.size = r := hre
  have i0 : (0 : Int) < (s.size : Int) := by omega
  have b0 : (s[0].toNat : Int) ≤ 255 := by have := s[0].toNat_lt; omega
  go_enter Try.func56, Try.ntmps56
  go_wp2
  go_quiet (fail)
  go_wp2
  exact bodyPost_ret (v := .tuple #[.agg #[.int .i64 0, .int .i64 0, .string ⟨#[]⟩], .string ⟨#[]⟩, .bool false]) (by simp [results, Try.results56, go_sem]) rfl
    ⟨⟨⟨0, 0, ⟨#[]⟩⟩, ⟨#[]⟩, false, rfl, wf0 _ _ (by decide) (by decide), .inr ⟨.inl rfl, HN.out⟩⟩, by repeat (first | exact Below.refl _ _ | (refine below_drewN ?_ _) | apply Below.drew | (refine Below.setCell ?_ (by simp) _) | (refine Below.alloc ?_ (by simp <;> omega) _))⟩

set_option maxHeartbeats 2000000 in
theorem readCell_bool0 (s r : ByteArray) (w : World) (hs : 0 < s.size) (hm : s.size ≤ maxLen) (hre : s.extract 1 s.size = r) (h0 : s[0] = 1) (hr0 : r.size = 0) :
    Calls Try.prog 56 #[.string s] w fun e w' => cellRes s.data.toList e ∧ Below w.heap.size w w' := by
  have HN : Hid (noCell s.data.toList) := by
    show noCell s.data.toList
    rw [list_head s hs, h0, hre, size0 hr0]; exact no_bool0
  have hk : (s[0].toNat : Int) = 1 := by rw [h0]; rfl
  clear h0
  unfold maxLen at hm
  have hr : s.extract 1 s.size = r := hre
  have i0 : (0 : Int) < (s.size : Int) := by omega
  have b0 : (s[0].toNat : Int) ≤ 255 := by have := s[0].toNat_lt; omega
  go_enter Try.func56, Try.ntmps56
  go_wp2
  go_quiet (fail)
  go_wp2
  exact bodyPost_ret (v := .tuple #[.agg #[.int .i64 0, .int .i64 0, .string ⟨#[]⟩], .string ⟨#[]⟩, .bool false]) (by simp [results, Try.results56, go_sem]) rfl
    ⟨⟨⟨0, 0, ⟨#[]⟩⟩, ⟨#[]⟩, false, rfl, wf0 _ _ (by decide) (by decide), .inr ⟨.inl rfl, HN.out⟩⟩, by repeat (first | exact Below.refl _ _ | (refine below_drewN ?_ _) | apply Below.drew | (refine Below.setCell ?_ (by simp) _) | (refine Below.alloc ?_ (by simp <;> omega) _))⟩

theorem chk_bool (b : UInt8) (h : b = 0 ∨ b = 1) : (⟨1, (b.toNat : Int), ⟨#[]⟩⟩ : Cel).ok ∧ encC ⟨1, (b.toNat : Int), ⟨#[]⟩⟩ = [1, b] := by
  rcases h with rfl | rfl <;> exact ⟨chk_ok _ _ _ (by decide), rfl⟩
theorem chk_nobool (b : UInt8) (h0 : b ≠ 0) (h1 : b ≠ 1) : ¬ (⟨1, (b.toNat : Int), ⟨#[]⟩⟩ : Cel).ok := by
  intro h
  obtain ⟨_, hk⟩ := chk_cases h
  dsimp only at hk
  have e0 : b.toNat ≠ 0 := fun e => h0 (byte_eq e)
  have e1 : b.toNat ≠ 1 := fun e => h1 (byte_eq e)
  omega
theorem bool_res (s r : ByteArray) (hs : 0 < s.size) (hre : s.extract 1 s.size = r) (h0 : s[0] = 1) (hr0 : 0 < r.size) :
    resOk s.data.toList ⟨1, (r[0].toNat : Int), ⟨#[]⟩⟩ (r.extract 1 r.size) true := by
  have e : s.data.toList = (1 : UInt8) :: r[0] :: (r.extract 1 r.size).data.toList := by rw [list_head s hs, h0, hre, ← list_head r hr0]
  by_cases hb : r[0] = 0 ∨ r[0] = 1
  · obtain ⟨h1, h2⟩ := chk_bool r[0] hb
    exact .inl ⟨rfl, h1, by rw [h2, e]; rfl⟩
  · have hb0 : r[0] ≠ 0 := fun h => hb (.inl h)
    have hb1 : r[0] ≠ 1 := fun h => hb (.inr h)
    exact .inr ⟨.inr (chk_nobool _ hb0 hb1), by rw [e]; exact no_bool hb0 hb1⟩

set_option maxHeartbeats 4000000 in
theorem readCell_bool (s r : ByteArray) (w : World) (hs : 0 < s.size) (hm : s.size ≤ maxLen) (hre : s.extract 1 s.size = r) (h0 : s[0] = 1) (hr0 : 0 < r.size) :
    Calls Try.prog 56 #[.string s] w fun e w' => cellRes s.data.toList e ∧ Below w.heap.size w w' := by
  have HN := bool_res s r hs hre h0 hr0
  have HNN : Hid (resOk s.data.toList ⟨1, (r[0].toNat : Int), ⟨#[]⟩⟩ (r.extract 1 r.size) true) := HN
  have HW : Hid ((⟨1, (r[0].toNat : Int), ⟨#[]⟩⟩ : Cel).wf) := by
    have := r[0].toNat_lt
    exact wf0 _ _ (by omega) (by omega)
  clear HN
  have hrm : r.size ≤ maxLen := by
    rw [← hre, ByteArray.size_extract]; omega
  have hk : (s[0].toNat : Int) = 1 := by rw [h0]; rfl
  have hrz : ((r.size : Int) == 0) = false := by rw [beq_eq_false_iff_ne]; omega
  have i1 : (0 : Int) < (r.size : Int) := by omega
  have b1 : (r[0].toNat : Int) ≤ 255 := by have := r[0].toNat_lt; omega
  clear h0
  unfold maxLen at hm hrm
  have hr : s.extract 1 s.size = r := hre
  have i0 : (0 : Int) < (s.size : Int) := by omega
  have b0 : (s[0].toNat : Int) ≤ 255 := by have := s[0].toNat_lt; omega
  go_enter Try.func56, Try.ntmps56
  go_wp2
  go_quiet (fail)
  go_wp2
  go_region
  all_goals go_wp2
  all_goals
    exact bodyPost_ret (v := .tuple #[.agg #[.int .i64 1, .int .i64 (r[0].toNat : Int), .string ⟨#[]⟩], .string (r.extract 1 r.size), .bool true]) (by simp [results, Try.results56, go_sem]) rfl
      ⟨⟨⟨1, _, ⟨#[]⟩⟩, _, true, rfl, HW.out, HNN.out⟩, by repeat (first | exact Below.refl _ _ | (refine below_drewN ?_ _) | apply Below.drew | (refine Below.setCell ?_ (by simp) _) | (refine Below.alloc ?_ (by simp <;> omega) _))⟩

set_option maxHeartbeats 2000000 in
theorem readCell_int0 (s r : ByteArray) (w : World) (hs : 0 < s.size) (hm : s.size ≤ maxLen) (hre : s.extract 1 s.size = r) (h0 : s[0] = 2) (hr0 : r.size < 8) :
    Calls Try.prog 56 #[.string s] w fun e w' => cellRes s.data.toList e ∧ Below w.heap.size w w' := by
  have HN : Hid (noCell s.data.toList) := by
    show noCell s.data.toList
    rw [list_head s hs, h0, hre]; exact no_int (by rw [list_len]; exact hr0)
  have hk : (s[0].toNat : Int) = 2 := by rw [h0]; rfl
  clear h0
  unfold maxLen at hm
  have hr : s.extract 1 s.size = r := hre
  have i0 : (0 : Int) < (s.size : Int) := by omega
  have b0 : (s[0].toNat : Int) ≤ 255 := by have := s[0].toNat_lt; omega
  go_enter Try.func56, Try.ntmps56
  go_wp2
  go_quiet (fail)
  go_wp2
  exact bodyPost_ret (v := .tuple #[.agg #[.int .i64 0, .int .i64 0, .string ⟨#[]⟩], .string ⟨#[]⟩, .bool false]) (by simp [results, Try.results56, go_sem]) rfl
    ⟨⟨⟨0, 0, ⟨#[]⟩⟩, ⟨#[]⟩, false, rfl, wf0 _ _ (by decide) (by decide), .inr ⟨.inl rfl, HN.out⟩⟩, by repeat (first | exact Below.refl _ _ | (refine below_drewN ?_ _) | apply Below.drew | (refine Below.setCell ?_ (by simp) _) | (refine Below.alloc ?_ (by simp <;> omega) _))⟩

theorem extract_zero (s : ByteArray) (k : Nat) : (s.extract 0 k).data.toList = s.data.toList.take k := by
  simp [ByteArray.data_extract, Array.toList_extract]
theorem int_ok (n : Int) : (⟨2, n, ⟨#[]⟩⟩ : Cel).ok := by
  refine chk_ok _ _ _ ?_
  unfold chk
  have e : (⟨#[]⟩ : ByteArray).size = 0 := rfl
  rw [e, if_neg (by omega), if_neg (by omega), if_neg (by omega)]

set_option maxRecDepth 100000 in
set_option maxHeartbeats 4000000 in
theorem readCell_int (s r : ByteArray) (w : World) (hs : 0 < s.size) (hm : s.size ≤ maxLen) (hre : s.extract 1 s.size = r) (h0 : s[0] = 2) (hr0 : 8 ≤ r.size) :
    Calls Try.prog 56 #[.string s] w fun e w' => cellRes s.data.toList e ∧ Below w.heap.size w w' := by
  have HN : Hid (s.data.toList = encC ⟨2, (beVal (r.extract 0 8).data.toList : Int) - 9223372036854775808, ⟨#[]⟩⟩ ++ (r.extract 8 r.size).data.toList) := by
    show s.data.toList = _
    rw [list_head s hs, h0, hre, extract_zero, Lib.extract_to_end]
    exact int_list _ (by rw [list_len]; exact hr0)
  have hz8 : (r.extract 0 8).size = 8 := by rw [ByteArray.size_extract]; omega
  have HB : Hid (beVal (r.extract 0 8).data.toList < 18446744073709551616) := beVal_lt _ (by rw [list_len]; exact hz8)
  have hrm : r.size ≤ maxLen := by
    rw [← hre, ByteArray.size_extract]; omega
  have hk : (s[0].toNat : Int) = 2 := by rw [h0]; rfl
  have i1 : (8 : Int) ≤ (r.size : Int) := by omega
  have Hz8 : Hid ((r.extract 0 8).size = 8) := hz8
  clear h0 hz8
  unfold maxLen at hm hrm
  have hr : s.extract 1 s.size = r := hre
  have i0 : (0 : Int) < (s.size : Int) := by omega
  have b0 : (s[0].toNat : Int) ≤ 255 := by have := s[0].toNat_lt; omega
  go_enter Try.func56, Try.ntmps56
  go_wp2
  go_quiet (fail)
  go_wp2
  go_region_held3 (fun _ => True) (trivial) (first | (go_at_call 65; refine (readInt_any _ _ Hz8.out).mono ?_; rintro e w' ⟨rfl, rfl⟩))
  all_goals go_wp2
  all_goals
    exact bodyPost_ret (v := .tuple #[.agg #[.int .i64 2, .int .i64 ((beVal (r.extract 0 8).data.toList : Int) - 9223372036854775808), .string ⟨#[]⟩], .string (r.extract 8 r.size), .bool true]) (by simp [results, Try.results56, go_sem]) rfl
      ⟨⟨⟨2, _, ⟨#[]⟩⟩, _, true, rfl, wf0 _ _ (by have := HB.out; omega) (by have := HB.out; omega), .inl ⟨rfl, int_ok _, HN.out⟩⟩, by repeat (first | exact Below.refl _ _ | (refine below_drewN ?_ _) | apply Below.drew | (refine Below.setCell ?_ (by simp) _) | (refine Below.alloc ?_ (by simp <;> omega) _))⟩

theorem text_res (s r tx rs : ByteArray) (ok : Bool) (hs : 0 < s.size) (hre : s.extract 1 s.size = r) (h0 : s[0] = 3)
    (h : (ok = true ∧ r.data.toList = encT tx.data.toList ++ 0 :: 1 :: rs.data.toList) ∨ (ok = false ∧ noText r.data.toList)) :
    resOk s.data.toList ⟨3, 0, tx⟩ rs ok := by
  have e : s.data.toList = (3 : UInt8) :: r.data.toList := by rw [list_head s hs, h0, hre]
  rcases h with ⟨rfl, h⟩ | ⟨rfl, h⟩
  · by_cases hl : tx.size ≤ 64
    · refine .inl ⟨rfl, chk_ok _ _ _ ?_, ?_⟩
      · unfold chk; rw [if_neg (by omega), if_neg (by omega), if_neg (by omega)]
      · rw [e, h]; show _ = (3 :: (encT tx.data.toList ++ [0, 1])) ++ _; simp
    · refine .inr ⟨.inr ?_, ?_⟩
      · intro hc
        have := (chk_cases hc).1
        exact hl this
      · rw [e]; exact no_text (no_long h (by rw [list_len]; omega))
  · exact .inr ⟨.inl rfl, by rw [e]; exact no_text h⟩

set_option maxHeartbeats 4000000 in
theorem readCell_text (s r : ByteArray) (w : World) (hs : 0 < s.size) (hm : s.size ≤ maxLen) (hre : s.extract 1 s.size = r) (h0 : s[0] = 3) :
    Calls Try.prog 56 #[.string s] w fun e w' => cellRes s.data.toList e ∧ Below w.heap.size w w' := by
  have HR : ∀ tx rs ok, ((ok = true ∧ r.data.toList = encT tx.data.toList ++ 0 :: 1 :: rs.data.toList) ∨ (ok = false ∧ noText r.data.toList)) → resOk s.data.toList ⟨3, 0, tx⟩ rs ok :=
    fun tx rs ok h => text_res s r tx rs ok hs hre h0 h
  have HRR : Hid (∀ tx rs ok, ((ok = true ∧ r.data.toList = encT tx.data.toList ++ 0 :: 1 :: rs.data.toList) ∨ (ok = false ∧ noText r.data.toList)) → resOk s.data.toList ⟨3, 0, tx⟩ rs ok) := HR
  clear HR
  have hrm : r.size ≤ maxLen := by
    rw [← hre, ByteArray.size_extract]; omega
  have hk : (s[0].toNat : Int) = 3 := by rw [h0]; rfl
  clear h0
  unfold maxLen at hm
  have hr : s.extract 1 s.size = r := hre
  have i0 : (0 : Int) < (s.size : Int) := by omega
  have b0 : (s[0].toNat : Int) ≤ 255 := by have := s[0].toNat_lt; omega
  go_enter Try.func56, Try.ntmps56
  go_wp2
  go_quiet (fail)
  go_wp2_with (go_at_call 66; refine (readText_any r _ hrm).mono ?_; rintro e w1 ⟨⟨tx, rs, ok, rfl, htx, hres⟩, hb1⟩; have hc0 := cell_later hb1 (a := ⟨w.heap.size, 0, none⟩) (v := .int .i64 0) (by go_simp); have hc1 := cell_later hb1 (a := ⟨w.heap.size, 1, none⟩) (v := .int .i64 0) (by go_simp); have hc2 := cell_later hb1 (a := ⟨w.heap.size, 2, none⟩) (v := .string ⟨#[]⟩) (by go_simp); have hf0 : w1.frozen? ⟨w.heap.size, 0, none⟩ = false := (hb1.frozen (by simp)).trans (by go_simp); have hf1 : w1.frozen? ⟨w.heap.size, 1, none⟩ = false := (hb1.frozen (by simp)).trans (by go_simp); have hf2 : w1.frozen? ⟨w.heap.size, 2, none⟩ = false := (hb1.frozen (by simp)).trans (by go_simp))
  have hbl : Below w.heap.size w w1 := (below_drewN ((Below.refl _ _).alloc (Nat.le_refl _) _) _).trans (hb1.mono (by simp))
  have hz : w.heap.size < w1.heap.size := by have := hb1.size; simp at this; omega
  exact bodyPost_ret (v := .tuple #[.agg #[.int .i64 3, .int .i64 0, .string tx], .string rs, .bool ok]) (by simp [results, Try.results56, go_sem, hc0, hc1, hc2, hz]) rfl
    ⟨⟨⟨3, 0, tx⟩, rs, ok, rfl, wf3 htx, HRR.out tx rs ok hres⟩, by repeat (first | exact hbl | (refine Below.setCell ?_ (by simp) _))⟩

theorem readCell_any (s : ByteArray) (w : World) (hs : 0 < s.size) (hm : s.size ≤ maxLen) :
    Calls Try.prog 56 #[.string s] w fun e w' => cellRes s.data.toList e ∧ Below w.heap.size w w' := by
  obtain ⟨r, hr⟩ : ∃ r, s.extract 1 s.size = r := ⟨_, rfl⟩
  by_cases h0 : s[0] = 0
  · exact readCell_null s r w hs hm hr h0
  · by_cases h1 : s[0] = 1
    · by_cases hz : r.size = 0
      · exact readCell_bool0 s r w hs hm hr h1 hz
      · exact readCell_bool s r w hs hm hr h1 (by omega)
    · by_cases h2 : s[0] = 2
      · by_cases hz : r.size < 8
        · exact readCell_int0 s r w hs hm hr h2 hz
        · exact readCell_int s r w hs hm hr h2 (by omega)
      · by_cases h3 : s[0] = 3
        · exact readCell_text s r w hs hm hr h3
        · exact readCell_other s r w hs hm hr h0 h1 h2 h3
end Go.Proofs.Ytkjiaeolodemlaf.vl
