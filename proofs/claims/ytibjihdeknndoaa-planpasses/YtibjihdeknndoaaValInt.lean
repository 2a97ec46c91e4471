/- readInt reads the eight bytes that appendInt wrote. -/
import Derived.Test.YtibjihdeknndoaaValBack
namespace Go.Proofs.Ytibjihdeknndoaa.vl
open Go.ChangeShapes Go.WideShapes Go.ChangeAt Go.RowKit
set_option linter.unusedVariables false
set_option linter.unusedSimpArgs false

theorem beVal_snoc (l : List UInt8) (b : UInt8) : beVal (l ++ [b]) = beVal l * 256 + b.toNat := by
  unfold beVal; rw [List.foldl_append]; rfl
theorem fold_bound (l : List UInt8) (a : Nat) : l.foldl (fun u b => u * 256 + b.toNat) a + 1 ≤ (a + 1) * 256 ^ l.length := by
  induction l generalizing a with
  | nil => simp
  | cons b l ih =>
    have hb := b.toNat_lt
    rw [List.foldl_cons, List.length_cons, Nat.pow_succ]
    refine Nat.le_trans (ih _) ?_
    rw [show (a + 1) * (256 ^ l.length * 256) = ((a + 1) * 256) * 256 ^ l.length by rw [Nat.mul_comm (256 ^ l.length), Nat.mul_assoc]]
    exact Nat.mul_le_mul_right _ (by omega)
theorem beVal_bound (l : List UInt8) : beVal l < 256 ^ l.length := by
  have := fold_bound l 0
  rw [Nat.zero_add, Nat.one_mul] at this
  exact this

theorem or_nat (u b : Nat) (hb : b < 256) : u * 256 ||| b = u * 256 + b := by
  have := Nat.shiftLeft_add_eq_or_of_lt (a := u) (b := b) (i := 8) (by simpa using hb)
  rw [Nat.shiftLeft_eq] at this
  exact this.symm
theorem ofInt_toNat (x : Nat) (hx : x < 18446744073709551616) : (BitVec.ofInt 64 (x : Int)).toNat = x := by
  rw [BitVec.toNat_ofInt]
  show ((x : Int) % 18446744073709551616).toNat = x
  rw [Int.emod_eq_of_lt (by omega) (by omega)]; rfl
theorem or_byte (u b : Nat) (hu : u < 72057594037927936) (hb : b < 256) :
    bits BinOp.or IntKind.u64 (IntKind.u64.wrap ((u : Int) * 256)) (IntKind.u64.wrap (b : Int)) = ((u * 256 + b : Nat) : Int) := by
  unfold bits
  simp only [wrapu]
  rw [Int.emod_eq_of_lt (a := (u : Int) * 256) (by omega) (by omega), Int.emod_eq_of_lt (a := (b : Int)) (by omega) (by omega)]
  have e1 : (BitVec.ofInt IntKind.u64.bits ((u : Int) * 256)).toNat = u * 256 := by
    have := ofInt_toNat (u * 256) (by omega)
    rw [show ((u * 256 : Nat) : Int) = (u : Int) * 256 by omega] at this
    exact this
  have e2 : (BitVec.ofInt IntKind.u64.bits (b : Int)).toNat = b := ofInt_toNat b (by omega)
  rw [BitVec.toNat_or, e1, e2, or_nat u b hb]
  exact Int.emod_eq_of_lt (by omega) (by omega)
theorem xor_back (u : Nat) (hu : u < 18446744073709551616) : wrap64 (bits BinOp.xor IntKind.u64 (u : Int) 9223372036854775808) = (u : Int) - 9223372036854775808 := by
  unfold bits
  simp only [wrapu]
  have e1 : (BitVec.ofInt IntKind.u64.bits (u : Int)).toNat = u := ofInt_toNat u hu
  have e2 : (BitVec.ofInt IntKind.u64.bits 9223372036854775808).toNat = 9223372036854775808 := by rw [BitVec.toNat_ofInt]; rfl
  rw [BitVec.toNat_xor, e1, e2]
  by_cases h : u < 9223372036854775808
  · have := xor_low u (by omega)
    rw [show (2 : Nat) ^ 63 = 9223372036854775808 by decide] at this
    rw [this]
    unfold wrap64
    omega
  · have := xor_high u (by omega) (by omega)
    rw [show (2 : Nat) ^ 63 = 9223372036854775808 by decide] at this
    rw [this]
    unfold wrap64
    omega

end Go.Proofs.Ytibjihdeknndoaa.vl
