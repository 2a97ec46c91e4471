/- The keys of rows: appendInt, appendText, appendCell and Key, and their mirrors in the reference. -/
import Derived.Test.YtibjihdeknndoaaValCmp
import Derived.Deep.AppendLies
import Derived.OwnWalk
namespace Go.Proofs.Ytibjihdeknndoaa.vl
open Go.ChangeShapes Go.WideShapes Go.ChangeAt Go.RowKit
set_option linter.unusedVariables false
set_option linter.unusedSimpArgs false

theorem Try.info5 : (Try.prog.info? 5).map (fun i => (i.zero, i.size, i.bytes)) = some (some (.int .u8 0), 1, 1) := by kernel_rfl

def byteV (b : UInt8) : Value := .int .u8 (b.toNat : Int)
/-- v is a slice of one's own that holds the bytes l -/
def ownB (w : World) (base : Nat) (v : Value) (l : List UInt8) : Prop := w.ownsRow base 5 1 v l.length (l.map byteV)

/-- eight bytes of a number, the greatest first -/
def byteAt (u : Nat) (j : Nat) : UInt8 := UInt8.ofNat (u / 2 ^ (56 - 8 * j))
def be8 (u : Nat) (j : Nat) : List UInt8 := (List.range j).map (byteAt u)

/-- 'append(key, b)' -/
theorem append_byte {ops : Array Oper} {rest : List Oper} {o : Oper} {a : Act} {Q : Exit → Act → World → Prop} (hgd : o.guard = none) (s x : Operand)
    (ho : o.op = .call { callee := .builtin .append, args := #[s, x], argTypes := #[82, 82] }) (base : Nat) (v : Value) (l : List UInt8) (hs : a.eval s = v) (w0 : World)
    (hown : ownB w0 base v l) (X : Value) (b : UInt8) (hX : X = byteV b) (B : Nat) (hB : w0.heap.size = B) (hx : a.eval x = .slice (some ⟨B, 0, none⟩) 1 1) (hl : l.length ≤ 2000000) (hb : base ≤ w0.heap.size)
    (h : ∀ v' w', ownB w' base v' (l ++ [b]) → (w0.alloc (.cells #[X] 5)).grownBy w' v.ownBlock → wpList Try.prog ops Q rest (a.put o.dst v') w') :
    wpList Try.prog ops Q (o :: rest) a (w0.alloc (.cells #[X] 5)) := by
  subst hX
  subst hB
  obtain ⟨i0, hi, hz0, hz1, hz2⟩ := info_parts Try.info5
  refine wpList_append_own _ hgd s x 82 ho base 5 i0 (.int .u8 0) 1 1 Try.underlying82 hi hz0 hz1 hz2 rfl (by decide) v l.length (l.map byteV) hs
    (World.ownsRow.alloc hown _) ⟨w0.heap.size, 0, none⟩ 1 1 [byteV b] hx rfl (cell_one_new _ _ _) (by intro u hu; simp at hu; subst hu; rfl) (by unfold maxLen; omega) (by omega) (by simp; omega) ?_
  intro v' w' h1 h2 _
  refine h v' w' ?_ h2
  unfold ownB
  rw [List.length_append, List.map_append]
  exact h1

theorem below_append {base : Nat} {w w0 w' : World} {v : Value} {l : List UInt8} {o : Obj} (hb : Below base w w0) (h0 : base ≤ w0.heap.size) (hown : ownB w0 base v l) (hg : (w0.alloc o).grownBy w' v.ownBlock) : Below base w w' :=
  (hb.alloc h0 o).grown hg (by simp; omega) (fun k hk => (World.ownsRow.lt hown k hk).1)

theorem byteAt_eq (u j : Nat) : (.int .u8 ((u : Int) / 2 ^ (56 - 8 * j) % 256) : Value) = byteV (byteAt u j) := by
  unfold byteV byteAt
  rw [UInt8.toNat_ofNat']
  congr 1
theorem be8_succ (u j : Nat) : be8 u (j + 1) = be8 u j ++ [byteAt u j] := by
  unfold be8; rw [List.range_succ, List.map_append]; rfl
theorem be8_len (u j : Nat) : (be8 u j).length = j := by simp [be8]

theorem xor_low (m : Nat) (h : m < 2 ^ 63) : m ^^^ 2 ^ 63 = 2 ^ 63 + m := by
  apply Nat.eq_of_testBit_eq
  intro i
  rw [Nat.testBit_xor]
  by_cases h1 : i < 63
  · rw [Nat.testBit_two_pow_add_gt h1, Nat.testBit_two_pow_of_ne (by omega)]; simp
  · by_cases h2 : i = 63
    · subst h2; rw [Nat.testBit_two_pow_add_eq, Nat.testBit_two_pow_self, Nat.testBit_lt_two_pow h]; rfl
    · have h3 : 2 ^ 64 ≤ 2 ^ i := Nat.pow_le_pow_right (by omega) (by omega)
      rw [Nat.testBit_lt_two_pow (Nat.lt_of_lt_of_le h (by omega)), Nat.testBit_two_pow_of_ne (by omega), Nat.testBit_lt_two_pow (Nat.lt_of_lt_of_le (by omega) h3)]; rfl
theorem xor_high (m : Nat) (h : 2 ^ 63 ≤ m) (h2 : m < 2 ^ 64) : m ^^^ 2 ^ 63 = m - 2 ^ 63 := by
  have e := xor_low (m - 2 ^ 63) (by omega)
  have : m = (m - 2 ^ 63) ^^^ 2 ^ 63 := by rw [e]; omega
  rw [this, Nat.xor_assoc, Nat.xor_self, Nat.xor_zero, ← this]

theorem sign_nat (n : Int) (n1 : -9223372036854775808 ≤ n) (n2 : n ≤ 9223372036854775807) :
    (n % 18446744073709551616).toNat ^^^ 9223372036854775808 = (n + 9223372036854775808).toNat := by
  by_cases h : 0 ≤ n
  · have e : n % 18446744073709551616 = n := Int.emod_eq_of_lt h (by omega)
    rw [e]
    have := xor_low n.toNat (by omega)
    rw [show (2 : Nat) ^ 63 = 9223372036854775808 by decide] at this
    rw [this]; omega
  · have e : n % 18446744073709551616 = n + 18446744073709551616 := by omega
    rw [e]
    have := xor_high (n + 18446744073709551616).toNat (by omega) (by omega)
    rw [show (2 : Nat) ^ 63 = 9223372036854775808 by decide] at this
    rw [this]; omega
theorem wrapu (x : Int) : IntKind.u64.wrap x = x % 18446744073709551616 := by
  simp [IntKind.wrap, IntKind.signed, IntKind.bits]
theorem sign_xor (n : Int) (n1 : -9223372036854775808 ≤ n) (n2 : n ≤ 9223372036854775807) :
    bits BinOp.xor IntKind.u64 (IntKind.u64.wrap n) 9223372036854775808 = (((n + 9223372036854775808).toNat : Nat) : Int) := by
  unfold bits
  simp only [wrapu]
  rw [BitVec.toNat_xor]
  have e1 : (BitVec.ofInt IntKind.u64.bits (n % 18446744073709551616)).toNat = (n % 18446744073709551616).toNat := by
    rw [BitVec.toNat_ofInt]
    show ((n % 18446744073709551616) % 18446744073709551616).toNat = _
    rw [Int.emod_emod_of_dvd _ (Int.dvd_refl _)]
  have e2 : (BitVec.ofInt IntKind.u64.bits 9223372036854775808).toNat = 9223372036854775808 := by
    rw [BitVec.toNat_ofInt]; rfl
  rw [e1, e2, sign_nat n n1 n2]
  omega
theorem sign_xor2 (n : Int) (n1 : -9223372036854775808 ≤ n) (n2 : n ≤ 9223372036854775807) :
    IntKind.u64.wrap (bits BinOp.xor IntKind.i64 n (-9223372036854775808)) = (((n + 9223372036854775808).toNat : Nat) : Int) := by
  unfold bits
  simp only [wrapu]
  rw [BitVec.toNat_xor]
  have e1 : (BitVec.ofInt IntKind.i64.bits n).toNat = (n % 18446744073709551616).toNat := by
    rw [BitVec.toNat_ofInt]; rfl
  have e2 : (BitVec.ofInt IntKind.i64.bits (-9223372036854775808)).toNat = 9223372036854775808 := by
    rw [BitVec.toNat_ofInt]; rfl
  rw [e1, e2, sign_nat n n1 n2]
  simp only [IntKind.wrap, IntKind.signed, IntKind.bits]
  simp
  split <;> omega

set_option maxHeartbeats 1000000 in
theorem appendInt_any (base : Nat) (v : Value) (l : List UInt8) (n : Int) (w : World) (hb : base ≤ w.heap.size) (ho : ownB w base v l) (hl : l.length ≤ 1000000)
    (n1 : -9223372036854775808 ≤ n) (n2 : n ≤ 9223372036854775807) :
    Calls Try.prog 82 #[v, .int .i64 n] w fun e w' => ∃ v', e = .returned v' ∧ ownB w' base v' (l ++ be8 (n + 9223372036854775808).toNat 8) ∧ Below base w w' := by
  have hx := sign_xor n n1 n2
  obtain ⟨u, hu⟩ : ∃ u, (n + 9223372036854775808).toNat = u := ⟨_, rfl⟩
  rw [hu] at hx
  have HU : Hid ((n + 9223372036854775808).toNat = u) := hu
  have hu2 : u ≤ 18446744073709551615 := by omega
  clear hu
  go_enter Try.func82, Try.ntmps82
  go_wp2
  go_loopw [0, 6] (fun v i wr => ∃ j : Nat, j ≤ 8 ∧ i = .int .i64 (56 - 8 * (j : Int)) ∧ ownB wr base v (l ++ be8 u j) ∧ Below base w wr) (fun _ i _ => (intOf i + 8).toNat)
  case atStart => exact ⟨0, by omega, rfl, by simpa [be8] using ho, Below.refl _ _⟩
  case round =>
    obtain ⟨j, hj, rfl, hown, hnx⟩ := hrel
    have hlj := be8_len u j
    have hbr : base ≤ wr.heap.size := Nat.le_trans hb hnx.size
    have HO : Hid (ownB wr base u0 (l ++ be8 u j)) := hown
    clear ho hown
    by_cases hlt : j < 8
    · go_wp2_with (at_builtin; refine append_byte rfl (.tmp 14) (.tmp 19) rfl base _ (l ++ be8 u j) rfl _ HO.out _ (byteAt u j) (byteAt_eq u j) _ rfl rfl (by rw [List.length_append, be8_len]; omega) hbr ?_; intro v' w1 hown1 hgrow1)
      go_roundw
      case rel => exact ⟨j + 1, by omega, by go_num, by rw [be8_succ, ← List.append_assoc]; exact hown1, below_append hnx hbr HO.out hgrow1⟩
      case measure => simp [intOf]; omega
    · have h8 : j = 8 := by omega
      subst h8
      go_wp2
      go_ret
      exact ⟨_, rfl, by rw [HU.out]; exact HO.out, hnx⟩

theorem append_two {ops : Array Oper} {rest : List Oper} {o : Oper} {a : Act} {Q : Exit → Act → World → Prop} (hgd : o.guard = none) (s x : Operand)
    (ho : o.op = .call { callee := .builtin .append, args := #[s, x], argTypes := #[82, 82] }) (base : Nat) (v : Value) (l : List UInt8) (hs : a.eval s = v) (w0 : World)
    (hown : ownB w0 base v l) (B : Nat) (hB : w0.heap.size = B) (hx : a.eval x = .slice (some ⟨B, 0, none⟩) 2 2) (hl : l.length ≤ 2000000) (hb : base ≤ w0.heap.size)
    (h : ∀ v' w', ownB w' base v' (l ++ [0, 1]) → (w0.alloc (.cells #[.int .u8 0, .int .u8 1] 5)).grownBy w' v.ownBlock → wpList Try.prog ops Q rest (a.put o.dst v') w') :
    wpList Try.prog ops Q (o :: rest) a (w0.alloc (.cells #[.int .u8 0, .int .u8 1] 5)) := by
  subst hB
  obtain ⟨i0, hi, hz0, hz1, hz2⟩ := info_parts Try.info5
  refine wpList_append_own _ hgd s x 82 ho base 5 i0 (.int .u8 0) 1 1 Try.underlying82 hi hz0 hz1 hz2 rfl (by decide) v l.length (l.map byteV) hs
    (World.ownsRow.alloc hown _) ⟨w0.heap.size, 0, none⟩ 2 2 [.int .u8 0, .int .u8 1] hx rfl (cell_two_new _ _ _ _) (by intro u hu; simp at hu; rcases hu with rfl | rfl <;> rfl) (by unfold maxLen; omega) (by omega) (by simp; omega) ?_
  intro v' w' h1 h2 _
  refine h v' w' ?_ h2
  unfold ownB
  rw [List.length_append, List.map_append]
  exact h1

/-- a text's bytes in a key -/
def encT (l : List UInt8) : List UInt8 := l.flatMap fun b => if b = 0 then [0, 255] else [b]
theorem encT_len (l : List UInt8) : (encT l).length ≤ 2 * l.length := by
  induction l with
  | nil => simp [encT]
  | cons b r ih =>
    have : encT (b :: r) = (if b = 0 then [0, 255] else [b]) ++ encT r := rfl
    rw [this, List.length_append, List.length_cons]
    split <;> simp <;> omega
theorem encT_snoc (l : List UInt8) (b : UInt8) : encT (l ++ [b]) = encT l ++ (if b = 0 then [0, 255] else [b]) := by
  unfold encT; rw [List.flatMap_append]; simp
theorem take_snoc (s : ByteArray) (k : Nat) (h : k < s.size) : s.data.toList.take (k + 1) = s.data.toList.take k ++ [s[k]] := by
  rw [List.take_succ_eq_append_getElem (by simpa using h)]; rfl
theorem byte_zero (b : UInt8) : ((b.toNat : Int) == 0) = decide (b = 0) := by
  rw [Bool.eq_iff_iff, beq_iff_eq, decide_eq_true_iff, ← UInt8.toNat_inj]
  simp

theorem byte_of {b c : UInt8} (h : b = c) : (.int .u8 (b.toNat : Int) : Value) = byteV c := by rw [h]; rfl

set_option maxHeartbeats 1000000 in
theorem appendText_any (base : Nat) (v : Value) (l : List UInt8) (s : ByteArray) (w : World) (hb : base ≤ w.heap.size) (ho : ownB w base v l) (hl : l.length ≤ 1000000) (hs : s.size ≤ 64) :
    Calls Try.prog 83 #[v, .string s] w fun e w' => ∃ v', e = .returned v' ∧ ownB w' base v' (l ++ encT s.data.toList ++ [0, 1]) ∧ Below base w w' := by
  go_enter Try.func83, Try.ntmps83
  go_wp2
  go_loopw [0, 8] (fun v i wr => ∃ k : Nat, k ≤ s.size ∧ i = .int .i64 k ∧ ownB wr base v (l ++ encT (s.data.toList.take k)) ∧ Below base w wr) (fun _ i _ => s.size - (intOf i).toNat)
  case atStart => exact ⟨0, by omega, rfl, by simpa [encT] using ho, Below.refl _ _⟩
  case round =>
    obtain ⟨k, hk, rfl, hown, hnx⟩ := hrel
    have hle : (l ++ encT (s.data.toList.take k)).length ≤ 1000200 := by
      have h1 := encT_len (s.data.toList.take k)
      have h2 : (s.data.toList.take k).length ≤ k := List.length_take_le _ _
      rw [List.length_append]; omega
    have hbr : base ≤ wr.heap.size := Nat.le_trans hb hnx.size
    have HO : Hid (ownB wr base u0 (l ++ encT (s.data.toList.take k))) := hown
    have HL : Hid ((l ++ encT (s.data.toList.take k)).length ≤ 1000200) := hle
    clear ho hown hle
    by_cases hlt : k < s.size
    · have HS : Hid (encT (s.data.toList.take (k + 1)) = encT (s.data.toList.take k) ++ (if s[k] = 0 then [0, 255] else [s[k]])) := by
        show encT (s.data.toList.take (k + 1)) = _
        rw [take_snoc s k hlt, encT_snoc]
      by_cases hz : ((s[k].toNat : Int) == 0) = true
      · have hz1 : s[k] = 0 := of_decide_eq_true ((byte_zero s[k]).symm.trans hz)
        have HZ : Hid (s[k] = 0) := hz1
        clear hz1
        go_wp2_with (first
          | (at_builtin; refine append_byte rfl (.tmp 11) (.tmp 15) rfl base _ (l ++ encT (s.data.toList.take k)) rfl _ HO.out _ 0 (byte_of HZ.out) _ rfl rfl (by have := HL.out; omega) hbr ?_; intro v' w1 hown1 hgrow1)
          | (at_builtin; refine append_byte rfl (.tmp 21) (.tmp 22) rfl base _ (l ++ encT (s.data.toList.take k) ++ [0]) rfl _ hown1 _ 255 rfl _ rfl rfl (by have := HL.out; rw [List.length_append]; simp only [List.length_cons, List.length_nil]; omega) (Nat.le_trans hbr (below_append (Below.refl _ _) hbr HO.out hgrow1).size) ?_; intro v2 w2 hown2 hgrow2))
        go_roundw
        case rel => exact ⟨k + 1, by omega, by go_num, by rw [HS.out, if_pos HZ.out]; simpa [List.append_assoc] using hown2, below_append (below_append hnx hbr HO.out hgrow1) (Nat.le_trans hbr (below_append (Below.refl _ _) hbr HO.out hgrow1).size) hown1 hgrow2⟩
        case measure => simp [intOf]; omega
      · have hz' : ((s[k].toNat : Int) == 0) = false := by simpa using hz
        have HZ : Hid (¬ s[k] = 0) := of_decide_eq_false ((byte_zero s[k]).symm.trans hz')
        go_wp2_with (at_builtin; refine append_byte rfl (.tmp 11) (.tmp 15) rfl base _ (l ++ encT (s.data.toList.take k)) rfl _ HO.out _ s[k] rfl _ rfl rfl (by have := HL.out; omega) hbr ?_; intro v' w1 hown1 hgrow1)
        go_roundw
        case rel => exact ⟨k + 1, by omega, by go_num, by rw [HS.out, if_neg HZ.out]; simpa [List.append_assoc] using hown1, below_append hnx hbr HO.out hgrow1⟩
        case measure => simp [intOf]; omega
    · have HE : Hid (s.data.toList.take k = s.data.toList) := List.take_of_length_le (by simp; omega)
      go_wp2_with (at_builtin; refine append_two rfl (.tmp 25) (.tmp 26) rfl base _ (l ++ encT (s.data.toList.take k)) rfl _ HO.out _ rfl rfl (by have := HL.out; omega) hbr ?_; intro v' w1 hown1 hgrow1)
      go_ret
      exact ⟨_, rfl, by have h := hown1; rw [HE.out] at h; exact h, below_append hnx hbr HO.out hgrow1⟩
end Go.Proofs.Ytibjihdeknndoaa.vl
