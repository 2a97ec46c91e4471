/- Key answers the key of a row, or what is wrong with it; KeyError answers what is wrong with it. -/
import Derived.Test.YtibjihdeknndoaaValKey2
import Derived.Lib.BufferRead
namespace Go.Proofs.Ytibjihdeknndoaa.vl
open Go.ChangeShapes Go.WideShapes Go.ChangeAt Go.RowKit
set_option linter.unusedVariables false
set_option linter.unusedSimpArgs false

theorem conv_own {w : World} {base : Nat} {v : Value} {l : List UInt8} (h : ownB w base v l) : (convert 82 9 v).run Try.prog w = .ok (.string ⟨l.toArray⟩) w := by
  rcases h.2 with ⟨rfl, h0⟩ | ⟨g, cap, cur, rfl, hb, hg, hn, hm, hs, ht⟩
  · have : l = [] := List.eq_nil_of_length_eq_zero h0
    subst this
    exact Lib.run_convert_nil_bytes w 82 9 5 0 Try.underlying82 Try.underlying5 Try.underlying9
  · refine run_convert_bytes_back w 82 9 5 ⟨g, 0, none⟩ cap l Try.underlying82 Try.underlying5 Try.underlying9 ?_
    refine Lib.bytes_of_row hg ?_
    rw [Nat.mul_one] at ht
    rw [ht]
    simp [Lib.byteCells, byteV]

theorem ownB_below {w w' : World} {base : Nat} {v : Value} {l : List UInt8} (h : ownB w base v l) (hb : Below w.heap.size w w') : ownB w' base v l := by
  refine ⟨h.1, ?_⟩
  rcases h.2 with h0 | ⟨g, cap, cur, hv, h1, hg, h2⟩
  · exact .inl h0
  · have hlt : g < w.heap.size := by
      rcases Nat.lt_or_ge g w.heap.size with hlt | hge
      · exact hlt
      · rw [Array.getElem?_eq_none hge] at hg; cases hg
    exact .inr ⟨g, cap, cur, hv, h1, by rw [hb.block g hlt]; exact hg, h2⟩

/-- its numbers and lengths are those of the machine -/
def wfRow (r : List Cel) : Prop := ∀ c ∈ r, (-9223372036854775808 ≤ c.n ∧ c.n ≤ 9223372036854775807) ∧ c.s.size ≤ maxLen
theorem wf_at {r : List Cel} (h : wfRow r) (k : Nat) (hk : k < r.length) : (-9223372036854775808 ≤ (r.getD k default).n ∧ (r.getD k default).n ≤ 9223372036854775807) ∧ (r.getD k default).s.size ≤ maxLen :=
  h _ (by simp [List.getD_eq_getElem?_getD, hk])
theorem errR_at (r : List Cel) (k : Nat) (hk : k < r.length) (h : ∀ i, i < k → ((r.getD i default).ok)) (hne : ¬ (r.getD k default).ok) : errR r = chk (r.getD k default).k (r.getD k default).n (r.getD k default).s := by
  rw [errR_drop r k h, drop_getD r k hk, errR]
  exact if_neg hne
theorem errR_end (r : List Cel) (k : Nat) (hk : r.length ≤ k) (h : ∀ i, i < k → ((r.getD i default).ok)) : errR r = 0 := by
  rw [errR_drop r k h, List.drop_of_length_le hk]; rfl
theorem all_ok {r : List Cel} (h : errR r = 0) : ∀ c ∈ r, c.ok := by
  induction r with
  | nil => intro c hc; cases hc
  | cons a r ih =>
    rw [errR] at h
    split at h
    · rename_i h0
      intro c hc
      rcases List.mem_cons.1 hc with rfl | hc
      · exact h0
      · exact ih h c hc
    · rename_i h0; exact absurd h h0
theorem ok_take (r : List Cel) (k : Nat) (hk : k ≤ r.length) (h : ∀ i, i < k → ((r.getD i default).ok)) : ∀ c ∈ r.take k, c.ok := by
  intro c hc
  obtain ⟨i, hi, rfl⟩ := List.getElem_of_mem hc
  rw [List.length_take] at hi
  have := h i (by omega)
  rw [List.getElem_take]
  simpa [List.getD_eq_getElem?_getD, show i < r.length by omega] using this

def keyS (r : List Cel) : ByteArray := ⟨(if keyErr r = 0 then encR r else []).toArray⟩
theorem ret2 {x y : ByteArray} {a b : Int} (h1 : x = y) (h2 : a = b) : Ending.returned (.tuple #[.string x, .int .i64 a]) = .returned (.tuple #[.string y, .int .i64 b]) := by rw [h1, h2]

set_option maxHeartbeats 2000000 in
theorem key_any (a : Option Addr) (cap : Nat) (r : List Cel) (w : World) (hr : rowAt w a r) (hwf : wfRow r) (hl : r.length ≤ 9223372036854775807) :
    Calls Try.prog 41 #[.slice a r.length cap] w fun e w' => e = .returned (.tuple #[.string (keyS r), .int .i64 (keyErr r)]) ∧ Below w.heap.size w w' := by
  obtain ⟨n, hn⟩ : ∃ n, r.length = n := ⟨_, rfl⟩
  have HN : Hid (r.length = n) := hn
  rw [hn] at hl ⊢
  clear hn
  by_cases h8 : 8 < n
  · have HK : Hid (keyErr r = 2) := by
      show keyErr r = 2
      unfold keyErr; rw [if_pos (by rw [HN.out]; exact h8)]
    go_enter Try.func41, Try.ntmps41
    go_wp2
    go_ret2
    exact ⟨ret2 (by unfold keyS; rw [HK.out]; rfl) HK.out.symm, Below.refl _ _⟩
  · have HK : Hid (keyErr r = errR r) := by
      show keyErr r = errR r
      unfold keyErr; rw [if_neg (by rw [HN.out]; exact h8)]
    go_enter Try.func41, Try.ntmps41
    go_wp2
    go_loopw [4, 13] (fun v i wr => ∃ k : Nat, k ≤ n ∧ i = .int .i64 k ∧ ownB wr w.heap.size v (encR (r.take k)) ∧ Below w.heap.size w wr ∧ (∀ i, i < k → ((r.getD i default).ok))) (fun _ i _ => n - (intOf i).toNat)
    case atStart => exact ⟨0, by omega, rfl, World.ownsRow_nil _ _ _ _, Below.refl _ _, fun i hi => absurd hi (Nat.not_lt_zero i)⟩
    case round =>
      obtain ⟨k, hk, rfl, hown, hnx, hall⟩ := hrel
      have HA : Hid (∀ i, i < k → ((r.getD i default).ok)) := hall
      have HO : Hid (ownB wr w.heap.size u4 (encR (r.take k))) := hown
      have HL : Hid ((encR (r.take k)).length ≤ 2000) := by
        have h1 := encR_len (r.take k) (ok_take r k (by rw [HN.out]; exact hk) hall)
        have h2 : (r.take k).length ≤ k := List.length_take_le _ _
        show _ ≤ 2000
        omega
      clear hall hown
      by_cases hlt : k < n
      · obtain ⟨b1, o1, e1, x1, x2, x3⟩ := hr k (by rw [HN.out]; exact hlt)
        subst e1
        have q1 := cell_later hnx x1
        have q2 := cell_later hnx x2
        have q3 := cell_later hnx x3
        clear x1 x2 x3 hr
        have hw := wf_at hwf k (by rw [HN.out]; exact hlt)
        have HT : Hid (encR (r.take (k + 1)) = encR (r.take k) ++ encC (r.getD k default)) := by
          show encR (r.take (k + 1)) = _
          rw [take_getD r k (by rw [HN.out]; exact hlt), encR_snoc]
        obtain ⟨⟨ka, na, sa⟩, hca⟩ : ∃ c, r.getD k default = c := ⟨_, rfl⟩
        rw [hca] at q1 q2 q3 hw
        have HCA : Hid (r.getD k default = ⟨ka, na, sa⟩) := hca
        clear hca
        obtain ⟨⟨w1, w2⟩, w3⟩ := hw
        dsimp only at q1 q2 q3 w1 w2 w3
        have i1 : (0 : Int) ≤ (k : Int) := by omega
        have i2 : (k : Int) < (n : Int) := by omega
        have j1 := World.block_lt_of_cell? _ _ q1
        have hsz := hnx.size
        by_cases hc : (chk ka na sa == 0) = true
        · have HC : Hid (chk ka na sa = 0) := by
            show chk ka na sa = 0
            simpa using hc
          go_wp2_with (first
            | (go_at_call 46; refine (check_any _ _ _ _ w3).mono ?_; rintro e wc ⟨rfl, hbc⟩; have hcc := cell_later hbc (a := ⟨wr.heap.size, 0, none⟩) (v := .int .i64 ka) (by go_simp); have hcn := cell_later hbc (a := ⟨wr.heap.size, 1, none⟩) (v := .int .i64 na) (by go_simp); have hcs := cell_later hbc (a := ⟨wr.heap.size, 2, none⟩) (v := .string sa) (by go_simp); have hoc := ownB_below (ownB_alloc HO.out _) hbc; have hlow := (hnx.alloc hsz _).trans (hbc.mono (by simp; omega)))
            | (go_at_call 69; refine (appendCell_any w.heap.size u4 (encR (r.take k)) ka na sa wc hlow.size hoc (by have := HL.out; omega) w1 w2 HC.out).mono ?_; rintro e w2 ⟨v2, rfl, hown2, hb2⟩))
          go_roundw
          case rel => exact ⟨k + 1, by omega, by go_num, by rw [HT.out, HCA.out]; exact hown2, hlow.trans hb2, fun i hi => by
            rcases Nat.lt_succ_iff_lt_or_eq.1 hi with h | h
            · exact HA.out i h
            · rw [h, HCA.out]; exact HC.out⟩
          case measure => simp [intOf]; omega
        · have hc' : (chk ka na sa == 0) = false := by simpa using hc
          have HC : Hid (keyErr r = chk ka na sa) := by
            show keyErr r = chk ka na sa
            rw [HK.out, errR_at r k (by rw [HN.out]; exact hlt) HA.out (by rw [HCA.out]; intro h; exact hc (beq_iff_eq.2 h)), HCA.out]
          have HC0 : Hid (¬ chk ka na sa = 0) := fun h => hc (beq_iff_eq.2 h)
          go_wp2_with (go_at_call 46; refine (check_any _ _ _ _ w3).mono ?_; rintro e wc ⟨rfl, hbc⟩; have hlow := (hnx.alloc hsz _).trans (hbc.mono (by simp; omega)))
          go_ret2
          exact ⟨ret2 (by unfold keyS; rw [if_neg (by rw [HC.out]; exact HC0.out)]) HC.out.symm, hlow⟩
      · have HC : Hid (keyErr r = 0) := by
          show keyErr r = 0
          rw [HK.out, errR_end r k (by rw [HN.out]; omega) HA.out]
        have HE : Hid (r.take k = r) := List.take_of_length_le (by rw [HN.out]; omega)
        have hcv := conv_own HO.out
        go_wp2
        go_ret2
        exact ⟨ret2 (by unfold keyS; rw [if_pos HC.out, HE.out]) HC.out.symm, hnx⟩

set_option maxHeartbeats 2000000 in
theorem keyError_any (a : Option Addr) (cap : Nat) (r : List Cel) (w : World) (hr : rowAt w a r) (hwf : wfRow r) (hl : r.length ≤ 9223372036854775807) :
    Calls Try.prog 42 #[.slice a r.length cap] w fun e w' => e = .returned (.int .i64 (keyErr r)) ∧ Below w.heap.size w w' := by
  obtain ⟨n, hn⟩ : ∃ n, r.length = n := ⟨_, rfl⟩
  have HN : Hid (r.length = n) := hn
  rw [hn] at hl ⊢
  clear hn
  by_cases h8 : 8 < n
  · have HK : Hid (keyErr r = 2) := by
      show keyErr r = 2
      unfold keyErr; rw [if_pos (by rw [HN.out]; exact h8)]
    go_enter Try.func42, Try.ntmps42
    go_wp2
    go_ret
    exact ⟨ret_int HK.out.symm, Below.refl _ _⟩
  · have HK : Hid (keyErr r = errR r) := by
      show keyErr r = errR r
      unfold keyErr; rw [if_neg (by rw [HN.out]; exact h8)]
    go_enter Try.func42, Try.ntmps42
    go_wp2
    go_loopw [3] (fun i wr => ∃ k : Nat, k ≤ n ∧ i = .int .i64 k ∧ Below w.heap.size w wr ∧ (∀ i, i < k → ((r.getD i default).ok))) (fun i _ => n - (intOf i).toNat)
    case atStart => exact ⟨0, by omega, rfl, Below.refl _ _, fun i hi => absurd hi (Nat.not_lt_zero i)⟩
    case round =>
      obtain ⟨k, hk, rfl, hnx, hall⟩ := hrel
      have HA : Hid (∀ i, i < k → ((r.getD i default).ok)) := hall
      clear hall
      by_cases hlt : k < n
      · obtain ⟨b1, o1, e1, x1, x2, x3⟩ := hr k (by rw [HN.out]; exact hlt)
        subst e1
        have q1 := cell_later hnx x1
        have q2 := cell_later hnx x2
        have q3 := cell_later hnx x3
        clear x1 x2 x3 hr
        have hw := wf_at hwf k (by rw [HN.out]; exact hlt)
        obtain ⟨⟨ka, na, sa⟩, hca⟩ : ∃ c, r.getD k default = c := ⟨_, rfl⟩
        rw [hca] at q1 q2 q3 hw
        have HCA : Hid (r.getD k default = ⟨ka, na, sa⟩) := hca
        clear hca
        obtain ⟨⟨w1, w2⟩, w3⟩ := hw
        dsimp only at q1 q2 q3 w1 w2 w3
        have i1 : (0 : Int) ≤ (k : Int) := by omega
        have i2 : (k : Int) < (n : Int) := by omega
        have hsz := hnx.size
        by_cases hc : (chk ka na sa == 0) = true
        · have HC : Hid (chk ka na sa = 0) := by
            show chk ka na sa = 0
            simpa using hc
          go_wp2_with (go_at_call 70; refine (rcheck_any _ _ _ _ w3).mono ?_; rintro e wc ⟨rfl, hbc⟩)
          go_roundw
          case rel => exact ⟨k + 1, by omega, by go_num, hnx.trans (hbc.mono hsz), fun i hi => by
            rcases Nat.lt_succ_iff_lt_or_eq.1 hi with h | h
            · exact HA.out i h
            · rw [h, HCA.out]; exact HC.out⟩
          case measure => simp [intOf]; omega
        · have hc' : (chk ka na sa == 0) = false := by simpa using hc
          have HC : Hid (keyErr r = chk ka na sa) := by
            show keyErr r = chk ka na sa
            rw [HK.out, errR_at r k (by rw [HN.out]; exact hlt) HA.out (by rw [HCA.out]; intro h; exact hc (beq_iff_eq.2 h)), HCA.out]
          go_wp2_with (go_at_call 70; refine (rcheck_any _ _ _ _ w3).mono ?_; rintro e wc ⟨rfl, hbc⟩)
          go_ret
          exact ⟨ret_int HC.out.symm, hnx.trans (hbc.mono hsz)⟩
      · have HC : Hid (keyErr r = 0) := by
          show keyErr r = 0
          rw [HK.out, errR_end r k (by rw [HN.out]; omega) HA.out]
        go_wp2
        go_ret
        exact ⟨ret_int HC.out.symm, hnx⟩
end Go.Proofs.Ytibjihdeknndoaa.vl
