/- The walk of the reference's front. -/
import Derived.Test.YtkjiaeolodemladValFront
namespace Go.Proofs.Ytkjiaeolodemlad.vl
open Go.ChangeShapes Go.WideShapes Go.ChangeAt Go.RowKit
set_option linter.unusedVariables false
set_option linter.unusedSimpArgs false

theorem wrap_i64 (x : Int) : IntKind.i64.wrap x = wrap64 x := by
  simp only [IntKind.wrap, IntKind.signed, IntKind.bits, wrap64]
  simp
  split <;> omega
theorem ofInt_wrap (x : Nat) (hx : x < 18446744073709551616) : (BitVec.ofInt 64 (wrap64 (x : Int))).toNat = x := by
  rw [BitVec.toNat_ofInt]
  show ((wrap64 (x : Int)) % 18446744073709551616).toNat = x
  unfold wrap64
  omega
theorem or_byte2 (u b : Nat) (hu : u < 72057594037927936) (hb : b < 256) : bits BinOp.or IntKind.i64 (wrap64 ((u : Int) * 256)) (b : Int) = wrap64 ((u * 256 + b : Nat) : Int) := by
  unfold bits
  simp only [wrap_i64]
  rw [BitVec.toNat_or]
  have e1 : (BitVec.ofInt IntKind.i64.bits (wrap64 ((u : Int) * 256))).toNat = u * 256 := by
    have := ofInt_wrap (u * 256) (by omega)
    rw [show ((u * 256 : Nat) : Int) = (u : Int) * 256 by omega] at this
    exact this
  have e2 : (BitVec.ofInt IntKind.i64.bits (b : Int)).toNat = b := ofInt_toNat b (by omega)
  rw [e1, e2, or_nat u b hb]
theorem xor_back2 (u : Nat) (hu : u < 18446744073709551616) : bits BinOp.xor IntKind.i64 (wrap64 (u : Int)) (-9223372036854775808) = (u : Int) - 9223372036854775808 := by
  unfold bits
  simp only [wrap_i64]
  rw [BitVec.toNat_xor]
  have e1 : (BitVec.ofInt IntKind.i64.bits (wrap64 (u : Int))).toNat = u := ofInt_wrap u hu
  have e2 : (BitVec.ofInt IntKind.i64.bits (-9223372036854775808)).toNat = 9223372036854775808 := by rw [BitVec.toNat_ofInt]; rfl
  rw [e1, e2]
  by_cases h : u < 9223372036854775808
  · have := xor_low u (by omega)
    rw [show (2 : Nat) ^ 63 = 9223372036854775808 by decide] at this
    rw [this]
    unfold wrap64
    omega
  · have := xor_high u (by omega) (by omega)
    rw [show (2 : Nat) ^ 63 = 9223372036854775808 by decide] at this
    rw [this]
    unfold wrap64
    omega

set_option maxHeartbeats 2000000 in
theorem front_empty (s : ByteArray) (w : World) (hs : s.size = 0) :
    Calls Try.prog 36 #[.string s] w fun e w' => frontRes s e ∧ Below w.heap.size w w' := by
  have HL : Hid (s.data.toList = []) := List.eq_nil_of_length_eq_zero (by rw [list_len]; exact hs)
  go_enter Try.func36, Try.ntmps36
  go_wp2
  exact bodyPost_ret (v := .tuple #[.agg #[.int .i64 0, .int .i64 0, .string ⟨#[]⟩], .int .i64 0]) (by simp [results, Try.results36, go_sem]) rfl
    ⟨⟨⟨0, 0, ⟨#[]⟩⟩, 0, rfl, Nat.zero_le _, wf0 _ _ (by decide) (by decide), by rw [HL.out]; exact reads_nil _ _⟩,
    by repeat (first | exact Below.refl _ _ | (refine below_drewN ?_ _) | apply Below.drew | (refine Below.setCell ?_ (by simp) _) | (refine Below.alloc ?_ (by simp <;> omega) _))
    ⟩

set_option maxHeartbeats 2000000 in
theorem front_null (s : ByteArray) (w : World) (hs : 0 < s.size) (hm : s.size ≤ maxLen) (h0 : s[0] = 0) :
    Calls Try.prog 36 #[.string s] w fun e w' => frontRes s e ∧ Below w.heap.size w w' := by
  have HR : Hid (reads s.data.toList ⟨0, 0, ⟨#[]⟩⟩ 1) := by
    show reads s.data.toList ⟨0, 0, ⟨#[]⟩⟩ 1
    rw [list_tail s hs, h0]; exact reads_null _
  have hk : (s[0].toNat : Int) = 0 := by rw [h0]; rfl
  clear h0
  have hm' := hm
  unfold maxLen at hm'
  have i0 : (0 : Int) < (s.size : Int) := by omega
  have iz : ((s.size : Int) == 0) = false := by rw [beq_eq_false_iff_ne]; omega
  have b0 : (s[0].toNat : Int) ≤ 255 := by have := s[0].toNat_lt; omega
  go_enter Try.func36, Try.ntmps36
  go_wp2
  exact bodyPost_ret (v := .tuple #[.agg #[.int .i64 0, .int .i64 0, .string ⟨#[]⟩], .int .i64 1]) (by simp [results, Try.results36, go_sem]) rfl
    ⟨⟨⟨0, 0, ⟨#[]⟩⟩, 1, rfl, hs, wf0 _ _ (by decide) (by decide), HR.out⟩,
    by repeat (first | exact Below.refl _ _ | (refine below_drewN ?_ _) | apply Below.drew | (refine Below.setCell ?_ (by simp) _) | (refine Below.alloc ?_ (by simp <;> omega) _))
    ⟩
set_option maxHeartbeats 2000000 in
theorem front_other (s : ByteArray) (w : World) (hs : 0 < s.size) (hm : s.size ≤ maxLen) (h0 : s[0] ≠ 0) (h1 : s[0] ≠ 1) (h2 : s[0] ≠ 2) (h3 : s[0] ≠ 3) :
    Calls Try.prog 36 #[.string s] w fun e w' => frontRes s e ∧ Below w.heap.size w w' := by
  have HN : Hid (noCell s.data.toList) := by
    show noCell s.data.toList
    rw [list_tail s hs]; exact no_head h0 h1 h2 h3
  have k0 : ((s[0].toNat : Int) == 0) = false := (byte_is s[0] 0).trans (decide_eq_false h0)
  have k1 : ((s[0].toNat : Int) == 1) = false := (byte_is s[0] 1).trans (decide_eq_false h1)
  have k2 : ((s[0].toNat : Int) == 2) = false := (byte_is s[0] 2).trans (decide_eq_false h2)
  have k3 : ((s[0].toNat : Int) == 3) = false := (byte_is s[0] 3).trans (decide_eq_false h3)
  clear h0 h1 h2 h3
  have hm' := hm
  unfold maxLen at hm'
  have i0 : (0 : Int) < (s.size : Int) := by omega
  have iz : ((s.size : Int) == 0) = false := by rw [beq_eq_false_iff_ne]; omega
  have b0 : (s[0].toNat : Int) ≤ 255 := by have := s[0].toNat_lt; omega
  go_enter Try.func36, Try.ntmps36
  go_wp2
  exact bodyPost_ret (v := .tuple #[.agg #[.int .i64 (s[0].toNat : Int), .int .i64 0, .string ⟨#[]⟩], .int .i64 0]) (by simp [results, Try.results36, go_sem]) rfl
    ⟨⟨⟨_, 0, ⟨#[]⟩⟩, 0, rfl, Nat.zero_le _, wf0 _ _ (by decide) (by decide), reads_no HN.out _ _⟩,
    by repeat (first | exact Below.refl _ _ | (refine below_drewN ?_ _) | apply Below.drew | (refine Below.setCell ?_ (by simp) _) | (refine Below.alloc ?_ (by simp <;> omega) _))
    ⟩
set_option maxHeartbeats 2000000 in
theorem front_bool0 (s : ByteArray) (w : World) (hs : 0 < s.size) (hm : s.size ≤ maxLen) (h0 : s[0] = 1) (hz : ¬ 1 < s.size) :
    Calls Try.prog 36 #[.string s] w fun e w' => frontRes s e ∧ Below w.heap.size w w' := by
  have HN : Hid (noCell s.data.toList) := by
    show noCell s.data.toList
    rw [list_tail s hs, h0, List.drop_of_length_le (by rw [list_len]; omega)]; exact no_bool0
  have hk : (s[0].toNat : Int) = 1 := by rw [h0]; rfl
  clear h0
  have hm' := hm
  unfold maxLen at hm'
  have i0 : (0 : Int) < (s.size : Int) := by omega
  have iz : ((s.size : Int) == 0) = false := by rw [beq_eq_false_iff_ne]; omega
  have b0 : (s[0].toNat : Int) ≤ 255 := by have := s[0].toNat_lt; omega
  go_enter Try.func36, Try.ntmps36
  go_wp2
  exact bodyPost_ret (v := .tuple #[.agg #[.int .i64 1, .int .i64 0, .string ⟨#[]⟩], .int .i64 0]) (by simp [results, Try.results36, go_sem]) rfl
    ⟨⟨⟨1, 0, ⟨#[]⟩⟩, 0, rfl, Nat.zero_le _, wf0 _ _ (by decide) (by decide), reads_no HN.out _ _⟩,
    by repeat (first | exact Below.refl _ _ | (refine below_drewN ?_ _) | apply Below.drew | (refine Below.setCell ?_ (by simp) _) | (refine Below.alloc ?_ (by simp <;> omega) _))
    ⟩
set_option maxHeartbeats 2000000 in
theorem front_bool (s : ByteArray) (w : World) (hs : 0 < s.size) (hm : s.size ≤ maxLen) (h0 : s[0] = 1) (hz : 1 < s.size) :
    Calls Try.prog 36 #[.string s] w fun e w' => frontRes s e ∧ Below w.heap.size w w' := by
  have HR : Hid (reads s.data.toList ⟨1, (s[1].toNat : Int), ⟨#[]⟩⟩ 2) := by
    show reads s.data.toList ⟨1, (s[1].toNat : Int), ⟨#[]⟩⟩ 2
    rw [list_tail s hs, h0, drop_cons s 1 hz]; exact reads_bool _ _
  have HW : Hid ((⟨1, (s[1].toNat : Int), ⟨#[]⟩⟩ : Cel).wf) := by
    have := s[1].toNat_lt
    exact wf0 _ _ (by omega) (by omega)
  have hk : (s[0].toNat : Int) = 1 := by rw [h0]; rfl
  have b1 : (s[1].toNat : Int) ≤ 255 := by have := s[1].toNat_lt; omega
  clear h0
  have hm' := hm
  unfold maxLen at hm'
  have i0 : (0 : Int) < (s.size : Int) := by omega
  have iz : ((s.size : Int) == 0) = false := by rw [beq_eq_false_iff_ne]; omega
  have b0 : (s[0].toNat : Int) ≤ 255 := by have := s[0].toNat_lt; omega
  go_enter Try.func36, Try.ntmps36
  go_wp2
  exact bodyPost_ret (v := .tuple #[.agg #[.int .i64 1, .int .i64 (s[1].toNat : Int), .string ⟨#[]⟩], .int .i64 2]) (by simp [results, Try.results36, go_sem]) rfl
    ⟨⟨⟨1, _, ⟨#[]⟩⟩, 2, rfl, hz, HW.out, HR.out⟩,
    by repeat (first | exact Below.refl _ _ | (refine below_drewN ?_ _) | apply Below.drew | (refine Below.setCell ?_ (by simp) _) | (refine Below.alloc ?_ (by simp <;> omega) _))
    ⟩
set_option maxHeartbeats 2000000 in
theorem front_int0 (s : ByteArray) (w : World) (hs : 0 < s.size) (hm : s.size ≤ maxLen) (h0 : s[0] = 2) (hz : ¬ 8 < s.size) :
    Calls Try.prog 36 #[.string s] w fun e w' => frontRes s e ∧ Below w.heap.size w w' := by
  have HN : Hid (noCell s.data.toList) := by
    show noCell s.data.toList
    rw [list_tail s hs, h0]; exact no_int (by rw [List.length_drop, list_len]; omega)
  have hk : (s[0].toNat : Int) = 2 := by rw [h0]; rfl
  clear h0
  have hm' := hm
  unfold maxLen at hm'
  have i0 : (0 : Int) < (s.size : Int) := by omega
  have iz : ((s.size : Int) == 0) = false := by rw [beq_eq_false_iff_ne]; omega
  have b0 : (s[0].toNat : Int) ≤ 255 := by have := s[0].toNat_lt; omega
  go_enter Try.func36, Try.ntmps36
  go_wp2
  exact bodyPost_ret (v := .tuple #[.agg #[.int .i64 2, .int .i64 0, .string ⟨#[]⟩], .int .i64 0]) (by simp [results, Try.results36, go_sem]) rfl
    ⟨⟨⟨2, 0, ⟨#[]⟩⟩, 0, rfl, Nat.zero_le _, wf0 _ _ (by decide) (by decide), reads_no HN.out _ _⟩,
    by repeat (first | exact Below.refl _ _ | (refine below_drewN ?_ _) | apply Below.drew | (refine Below.setCell ?_ (by simp) _) | (refine Below.alloc ?_ (by simp <;> omega) _))
    ⟩
end Go.Proofs.Ytkjiaeolodemlad.vl
