/- The reference's key of a row: eight, cellKey and Key. -/
import Derived.Test.YtibjihdeknndoaaValBegun
import Derived.Lib.SmallJoins
namespace Go.Proofs.Ytibjihdeknndoaa.vl
open Go.ChangeShapes Go.WideShapes Go.ChangeAt Go.RowKit
set_option linter.unusedVariables false
set_option linter.unusedSimpArgs false

/-- 'string([]byte{b})' -/
theorem conv_new (w : World) (B : Nat) (hB : w.heap.size = B) (b : UInt8) : (convert 82 9 (.slice (some ⟨B, 0, none⟩) 1 1)).run Try.prog (w.alloc (.cells #[.int .u8 (b.toNat : Int)] 5)) = .ok (.string ⟨#[b]⟩) (w.alloc (.cells #[.int .u8 (b.toNat : Int)] 5)) := by
  subst hB
  exact run_convert_bytes_back (w.alloc (.cells #[.int .u8 (b.toNat : Int)] 5)) 82 9 5 ⟨w.heap.size, 0, none⟩ 1 [b] Try.underlying82 Try.underlying5 Try.underlying9 (fun j hj => by
    have : j = 0 := by simp at hj; omega
    subst this
    simp [Addr.add])

theorem conv_lit (w : World) (B : Nat) (hB : w.heap.size = B) (x : Int) (b : UInt8) (hx : (b.toNat : Int) = x) : (convert 82 9 (.slice (some ⟨B, 0, none⟩) 1 1)).run Try.prog (w.alloc (.cells #[.int .u8 x] 5)) = .ok (.string ⟨#[b]⟩) (w.alloc (.cells #[.int .u8 x] 5)) := by
  subst hx; exact conv_new w B hB b
theorem byteAt_int (u j : Nat) : ((u : Int) / 2 ^ (56 - 8 * j) % 256) = ((byteAt u j).toNat : Int) := by
  have := byteAt_eq u j
  unfold byteV at this
  injection this

theorem str_push (a : ByteArray) (l : List UInt8) (h : a = ⟨l.toArray⟩) (b : UInt8) : a ++ (⟨#[b]⟩ : ByteArray) = ⟨(l ++ [b]).toArray⟩ := by
  subst h
  apply str_eq
  rw [Joins.data_append]

set_option maxHeartbeats 1000000 in
theorem eight_any (n : Int) (u : Nat) (w : World) (hu : IntKind.u64.wrap n = (u : Int)) (hu2 : u ≤ 18446744073709551615) :
    Calls Try.prog 84 #[.int .i64 n] w fun e w' => e = .returned (.string ⟨(be8 u 8).toArray⟩) ∧ Below w.heap.size w w' := by
  go_enter Try.func84, Try.ntmps84
  go_wp2
  go_loopw [3, 4] (fun t i wr => ∃ j : Nat, j ≤ 8 ∧ i = .int .i64 (56 - 8 * (j : Int)) ∧ t = .string ⟨(be8 u j).toArray⟩ ∧ Below w.heap.size w wr) (fun _ i _ => (intOf i + 8).toNat)
  case atStart => exact ⟨0, by omega, rfl, rfl, Below.refl _ _⟩
  case round =>
    obtain ⟨j, hj, rfl, rfl, hnx⟩ := hrel
    by_cases hlt : j < 8
    · have hb := byteAt_int u j
      have hcv := fun wx => conv_new wx wx.heap.size rfl (byteAt u j)
      have hl := be8_len u j
      go_wp2
      go_roundw
      case rel => exact ⟨j + 1, by omega, by go_num, by rw [str_push _ _ rfl, ← be8_succ], hnx.alloc hnx.size _⟩
      case measure => simp [intOf]; omega
    · have h8 : j = 8 := by omega
      subst h8
      go_wp2
      go_ret
      exact ⟨rfl, hnx⟩

theorem str_cons (b : UInt8) (l : List UInt8) : (⟨#[b]⟩ : ByteArray) ++ (⟨l.toArray⟩ : ByteArray) = ⟨(b :: l).toArray⟩ := by
  apply str_eq
  rw [Joins.data_append]
  rfl
theorem str_app (l m : List UInt8) : (⟨l.toArray⟩ : ByteArray) ++ (⟨m.toArray⟩ : ByteArray) = ⟨(l ++ m).toArray⟩ := by
  apply str_eq
  rw [Joins.data_append]
theorem extract_one (s : ByteArray) (k : Nat) (h : k < s.size) : s.extract k (k + 1) = ⟨#[s[k]]⟩ := by
  apply str_eq
  have h1 : s.data.toList.drop k = s[k] :: s.data.toList.drop (k + 1) := drop_cons s k h
  simp only [ByteArray.data_extract, Array.toList_extract]
  rw [List.extract_eq_take_drop, h1]
  simp
theorem ret_str {a b : ByteArray} (h : a = b) : Ending.returned (.string a) = .returned (.string b) := by rw [h]

set_option maxHeartbeats 2000000 in
theorem cellKey_any (k n : Int) (s : ByteArray) (w : World) (n1 : -9223372036854775808 ≤ n) (n2 : n ≤ 9223372036854775807) (hc : chk k n s = 0) :
    Calls Try.prog 73 #[.agg #[.int .i64 k, .int .i64 n, .string s]] w fun e w' => e = .returned (.string ⟨(encC ⟨k, n, s⟩).toArray⟩) ∧ Below w.heap.size w w' := by
  obtain ⟨hs, hk⟩ := chk_cases hc
  clear hc
  rcases hk with ⟨rfl, rfl, hs0⟩ | ⟨rfl, rfl, hs0⟩ | ⟨rfl, rfl, hs0⟩ | ⟨rfl, hs0⟩ | ⟨rfl, rfl⟩
  · have hcv := conv_lit (w.alloc (.cells #[.int .i64 0, .int .i64 0, .string s] 60)) (w.heap.size + 1) (by simp) 0 0 rfl
    go_enter Try.func73, Try.ntmps73
    go_wp2
    go_ret
    exact ⟨rfl, ((Below.refl _ _).alloc (Nat.le_refl _) _).alloc (by simp) _⟩
  · have hcv := conv_lit (w.alloc (.cells #[.int .i64 1, .int .i64 0, .string s] 60)) (w.heap.size + 1) (by simp) 1 1 rfl
    have hcv2 := conv_lit ((w.alloc (.cells #[.int .i64 1, .int .i64 0, .string s] 60)).alloc (.cells #[.int .u8 1] 5)) (w.heap.size + 1 + 1) (by simp) 0 0 rfl
    go_enter Try.func73, Try.ntmps73
    go_wp2
    go_ret
    exact ⟨rfl, (((Below.refl _ _).alloc (Nat.le_refl _) _).alloc (by simp) _).alloc (by simp; omega) _⟩
  · have hcv := conv_lit (w.alloc (.cells #[.int .i64 1, .int .i64 1, .string s] 60)) (w.heap.size + 1) (by simp) 1 1 rfl
    have hcv2 := conv_lit ((w.alloc (.cells #[.int .i64 1, .int .i64 1, .string s] 60)).alloc (.cells #[.int .u8 1] 5)) (w.heap.size + 1 + 1) (by simp) 1 1 rfl
    go_enter Try.func73, Try.ntmps73
    go_wp2
    go_ret
    exact ⟨rfl, (((Below.refl _ _).alloc (Nat.le_refl _) _).alloc (by simp) _).alloc (by simp; omega) _⟩
  · have hcv := conv_lit (w.alloc (.cells #[.int .i64 2, .int .i64 n, .string s] 60)) (w.heap.size + 1) (by simp) 2 2 rfl
    have hx := sign_xor2 n n1 n2
    have HX : Hid (IntKind.u64.wrap (bits BinOp.xor IntKind.i64 n (-9223372036854775808)) = (((n + 9223372036854775808).toNat : Nat) : Int)) := hx
    clear hx
    have hl := be8_len (n + 9223372036854775808).toNat 8
    go_enter Try.func73, Try.ntmps73
    go_wp2_with (go_at_call 84; refine (eight_any _ (n + 9223372036854775808).toNat _ HX.out (by omega)).mono ?_; rintro e w1 ⟨rfl, hb1⟩)
    go_ret
    exact ⟨ret_str (str_cons 2 _), (((Below.refl _ _).alloc (Nat.le_refl _) _).alloc (by simp) _).trans (hb1.mono (by simp; omega))⟩
  · have hcv := conv_lit (w.alloc (.cells #[.int .i64 3, .int .i64 0, .string s] 60)) (w.heap.size + 1) (by simp) 3 3 rfl
    go_enter Try.func73, Try.ntmps73
    have hbl : Below w.heap.size w ((w.alloc (.cells #[.int .i64 3, .int .i64 0, .string s] 60)).alloc (.cells #[.int .u8 3] 5)) := ((Below.refl _ _).alloc (Nat.le_refl _) _).alloc (by simp) _
    go_wp2
    go_loop [3, 4] (fun t i => ∃ (k : Nat) (q : ByteArray), k ≤ s.size ∧ i = .int .i64 k ∧ t = .string q ∧ q.data.toList = 3 :: encT (s.data.toList.take k)) (fun _ i => s.size - (intOf i).toNat)
    case atStart => exact ⟨0, _, by omega, rfl, rfl, rfl⟩
    case round =>
      obtain ⟨k, q, hk, rfl, rfl, hq⟩ := hrel
      have HQ : Hid (q.data.toList = 3 :: encT (s.data.toList.take k)) := hq
      have hqs : q.size ≤ 129 := by
        rw [← list_len, hq]
        have h1 := encT_len (s.data.toList.take k)
        have h2 : (s.data.toList.take k).length ≤ k := List.length_take_le _ _
        simp only [List.length_cons]; omega
      clear hq
      by_cases hlt : k < s.size
      · have hex := extract_one s k hlt
        have HS : Hid (encT (s.data.toList.take (k + 1)) = encT (s.data.toList.take k) ++ (if s[k] = 0 then [0, 255] else [s[k]])) := by
          show encT (s.data.toList.take (k + 1)) = _
          rw [take_snoc s k hlt, encT_snoc]
        by_cases hz : ((s[k].toNat : Int) == 0) = true
        · have hz1 : s[k] = 0 := of_decide_eq_true ((byte_zero s[k]).symm.trans hz)
          have HZ : Hid (s[k] = 0) := hz1
          clear hz1
          go_wp2
          go_round
          case rel => exact ⟨k + 1, _, by omega, by go_num, rfl, by rw [Joins.data_append, Joins.data_append, HQ.out, HS.out, if_pos HZ.out, HZ.out]; simp⟩
          case measure => simp [intOf]; omega
        · have hz' : ((s[k].toNat : Int) == 0) = false := by simpa using hz
          have HZ : Hid (¬ s[k] = 0) := of_decide_eq_false ((byte_zero s[k]).symm.trans hz')
          go_wp2
          go_round
          case rel => exact ⟨k + 1, _, by omega, by go_num, rfl, by rw [Joins.data_append, HQ.out, HS.out, if_neg HZ.out]; simp⟩
          case measure => simp [intOf]; omega
      · have HE : Hid (s.data.toList.take k = s.data.toList) := List.take_of_length_le (by rw [list_len]; omega)
        go_wp2
        go_ret
        exact ⟨ret_str (by apply str_eq; rw [Joins.data_append, HQ.out, HE.out]; rfl), hbl⟩

set_option maxHeartbeats 2000000 in
theorem rkey_any (a : Option Addr) (cap : Nat) (r : List Cel) (w : World) (hr : rowAt w a r) (hok : rowOk r) :
    Calls Try.prog 48 #[.slice a r.length cap] w fun e w' => e = .returned (.string ⟨(encR r).toArray⟩) ∧ Below w.heap.size w w' := by
  obtain ⟨n, hn⟩ : ∃ n, r.length = n := ⟨_, rfl⟩
  have HN : Hid (r.length = n) := hn
  have h8 := hok.1
  rw [hn] at h8 ⊢
  clear hn
  go_enter Try.func48, Try.ntmps48
  go_wp2
  go_loopw [3, 4] (fun t i wr => ∃ (k : Nat) (q : ByteArray), k ≤ n ∧ i = .int .i64 k ∧ t = .string q ∧ q.data.toList = encR (r.take k) ∧ Below w.heap.size w wr) (fun _ i _ => n - (intOf i).toNat)
  case atStart => exact ⟨0, _, by omega, rfl, rfl, rfl, Below.refl _ _⟩
  case round =>
    obtain ⟨k, q, hk, rfl, rfl, hq, hnx⟩ := hrel
    have HQ : Hid (q.data.toList = encR (r.take k)) := hq
    have hqs : q.size ≤ 1048 := by
      rw [← list_len, hq]
      have h1 := encR_len (r.take k) (fun c hc => (hok.2 c (List.mem_of_mem_take hc)).1)
      have h2 : (r.take k).length ≤ k := List.length_take_le _ _
      omega
    clear hq
    by_cases hlt : k < n
    · obtain ⟨b1, o1, e1, x1, x2, x3⟩ := hr k (by rw [HN.out]; exact hlt)
      subst e1
      have q1 := cell_later hnx x1
      have q2 := cell_later hnx x2
      have q3 := cell_later hnx x3
      clear x1 x2 x3 hr
      have hw := hok.2 (r.getD k default) (by simp [List.getD_eq_getElem?_getD, show k < r.length by rw [HN.out]; exact hlt])
      have HT : Hid (encR (r.take (k + 1)) = encR (r.take k) ++ encC (r.getD k default)) := by
        show encR (r.take (k + 1)) = _
        rw [take_getD r k (by rw [HN.out]; exact hlt), encR_snoc]
      obtain ⟨⟨ka, na, sa⟩, hca⟩ : ∃ c, r.getD k default = c := ⟨_, rfl⟩
      rw [hca] at q1 q2 q3 hw
      have HCA : Hid (r.getD k default = ⟨ka, na, sa⟩) := hca
      clear hca
      have HC : Hid (chk ka na sa = 0) := hw.1
      have hcl : (encC ⟨ka, na, sa⟩).length ≤ 131 := encC_len _ hw.1
      obtain ⟨_, ⟨w1, w2⟩, w3⟩ := hw
      dsimp only at q1 q2 q3 w1 w2 w3
      have i1 : (0 : Int) ≤ (k : Int) := by omega
      have i2 : (k : Int) < (n : Int) := by omega
      go_wp2_with (go_at_call 73; refine (cellKey_any _ _ _ _ w1 w2 HC.out).mono ?_; rintro e wc ⟨rfl, hbc⟩)
      go_roundw
      case rel => exact ⟨k + 1, _, by omega, by go_num, rfl, by rw [Joins.data_append, HQ.out, HT.out, HCA.out], hnx.trans (hbc.mono hnx.size)⟩
      case measure => simp [intOf]; omega
    · have HE : Hid (r.take k = r) := List.take_of_length_le (by rw [HN.out]; omega)
      go_wp2
      go_ret
      exact ⟨ret_str (by apply str_eq; rw [HQ.out, HE.out]), hnx⟩
end Go.Proofs.Ytibjihdeknndoaa.vl
