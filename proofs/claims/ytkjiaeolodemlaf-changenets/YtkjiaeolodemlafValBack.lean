/- readText reads what appendText wrote, and nothing else. -/
import Derived.Test.YtkjiaeolodemlafValCode
import Derived.Lib.IndexBytes
namespace Go.Proofs.Ytkjiaeolodemlaf.vl
open Go.ChangeShapes Go.WideShapes Go.ChangeAt Go.RowKit
set_option linter.unusedVariables false
set_option linter.unusedSimpArgs false

theorem own_form {w : World} {base : Nat} {v : Value} {l : List UInt8} (h : ownB w base v l) : ∃ ad cap, v = .slice ad l.length cap := by
  rcases h.2 with ⟨rfl, h0⟩ | ⟨g, cap, cur, rfl, _⟩
  · exact ⟨none, 0, by rw [h0]⟩
  · exact ⟨_, _, rfl⟩

theorem drop_cons (s : ByteArray) (k : Nat) (h : k < s.size) : s.data.toList.drop k = s[k] :: s.data.toList.drop (k + 1) := by
  rw [List.drop_eq_getElem_cons (by simpa using h)]; rfl
theorem list_len (s : ByteArray) : s.data.toList.length = s.size := Array.length_toList

/-- no text of 64 bytes at most, and its end, begin here -/
def noText (l : List UInt8) : Prop := ∀ t rest, t.length ≤ 64 → l ≠ encT t ++ 0 :: 1 :: rest
theorem noText_of {l x tail : List UInt8} (h : l = encT x ++ tail) (hn : ∀ t2 rest, (x ++ t2).length ≤ 64 → tail ≠ encT t2 ++ 0 :: 1 :: rest) : noText l := by
  intro t rest ht hl
  rw [h] at hl
  obtain ⟨t2, e1, e2⟩ := encT_split _ _ _ _ hl
  exact hn t2 rest (by rw [← e1]; exact ht) e2
theorem no_end {l x : List UInt8} (h : l = encT x ++ []) : noText l := noText_of h (fun t2 rest _ e => by simp at e)
theorem no_long {l x tail : List UInt8} (h : l = encT x ++ tail) (hx : 64 < x.length) : noText l := noText_of h (fun t2 rest ht e => by rw [List.length_append] at ht; omega)
theorem no_zero {l x : List UInt8} (h : l = encT x ++ [0]) : noText l := noText_of h (fun t2 rest _ e => by
  cases t2 with
  | nil => simp [encT] at e
  | cons b t2 =>
    rw [encT_cons] at e
    by_cases hb : b = 0
    · rw [if_pos hb] at e; simp at e
    · rw [if_neg hb] at e; simp at e)
theorem no_other {l x tail : List UInt8} {c : UInt8} (h : l = encT x ++ 0 :: c :: tail) (h1 : c ≠ 1) (h2 : c ≠ 255) : noText l := noText_of h (fun t2 rest _ e => by
  cases t2 with
  | nil => simp [encT] at e; exact h1 e.1
  | cons b t2 =>
    rw [encT_cons] at e
    by_cases hb : b = 0
    · rw [if_pos hb] at e; simp at e; exact h2 e.1
    · rw [if_neg hb] at e; simp at e; exact absurd e.1.symm hb)

theorem byte_is (b c : UInt8) : ((b.toNat : Int) == (c.toNat : Int)) = decide (b = c) := by
  rw [Bool.eq_iff_iff, beq_iff_eq, decide_eq_true_iff, ← UInt8.toNat_inj]
  omega
theorem ret3 {x y x' y' : ByteArray} {a a' : Bool} (h1 : x = x') (h2 : y = y') (h3 : a = a') : Ending.returned (.tuple #[.string x, .string y, .bool a]) = .returned (.tuple #[.string x', .string y', .bool a']) := by rw [h1, h2, h3]

set_option maxRecDepth 10000 in
set_option maxHeartbeats 2000000 in
theorem readText_any (s : ByteArray) (w : World) (hs : s.size ≤ maxLen) :
    Calls Try.prog 66 #[.string s] w fun e w' => (∃ tx rs ok, e = .returned (.tuple #[.string tx, .string rs, .bool ok]) ∧ tx.size ≤ 65 ∧
      ((ok = true ∧ s.data.toList = encT tx.data.toList ++ 0 :: 1 :: rs.data.toList) ∨ (ok = false ∧ noText s.data.toList))) ∧ Below w.heap.size w w' := by
  unfold maxLen at hs
  go_enter Try.func66, Try.ntmps66
  go_wp2
  go_loopw [5, 6] (fun v i wr => ∃ (k : Nat) (t : List UInt8), k ≤ s.size ∧ i = .int .i64 k ∧ ownB wr w.heap.size v t ∧ Below w.heap.size w wr ∧ t.length ≤ 65 ∧ s.data.toList = encT t ++ s.data.toList.drop k) (fun _ i _ => s.size - (intOf i).toNat)
  case atStart => exact ⟨0, [], by omega, rfl, World.ownsRow_nil _ _ _ _, Below.refl _ _, by simp, rfl⟩
  case round =>
    obtain ⟨k, t, hk, rfl, hown, hnx, ht, hsp⟩ := hrel
    obtain ⟨ad, cap, hv⟩ := own_form hown
    subst hv
    have HO : Hid (ownB wr w.heap.size (.slice ad t.length cap) t) := hown
    have HS : Hid (s.data.toList = encT t ++ s.data.toList.drop k) := hsp
    have hsz := hnx.size
    clear hown hsp
    by_cases hlt : k < s.size
    · by_cases h64 : t.length ≤ 64
      · have h64' : ((t.length : Nat) : Int) ≤ 64 := by omega
        have HD : Hid (s.data.toList.drop k = s[k] :: s.data.toList.drop (k + 1)) := drop_cons s k hlt
        by_cases hz : ((s[k].toNat : Int) == 0) = true
        · have hz1 : s[k] = 0 := of_decide_eq_true ((byte_zero s[k]).symm.trans hz)
          have HZ : Hid (s[k] = 0) := hz1
          clear hz1
          by_cases hlt2 : k + 1 < s.size
          · have HD2 : Hid (s.data.toList.drop (k + 1) = s[k + 1] :: s.data.toList.drop (k + 1 + 1)) := drop_cons s (k + 1) hlt2
            have hne : ((k : Int) + 1 == (s.size : Int)) = false := by simp; omega
            have HQ : Hid (s.data.toList = encT t ++ 0 :: s[k + 1] :: s.data.toList.drop (k + 1 + 1)) := by
              show s.data.toList = _
              have h := HS.out
              rw [HD.out, HD2.out, HZ.out] at h
              exact h
            by_cases h1 : ((s[k + 1].toNat : Int) == 1) = true
            · have h11 : s[k + 1] = 1 := of_decide_eq_true ((byte_is s[k + 1] 1).symm.trans h1)
              have H1 : Hid (s[k + 1] = 1) := h11
              clear h11
              have hcv := fun n => conv_own (w := wr.drewN n) (base := w.heap.size) HO.out
              go_wp2
              go_quiet (fail)
              go_wp2
              go_ret3
              exact ⟨⟨_, _, _, rfl, by show t.toArray.size ≤ 65; simp; omega, .inl ⟨rfl, by
                have h := HQ.out
                rw [H1.out] at h
                rw [Lib.extract_to_end]
                exact h⟩⟩, below_drewN hnx _⟩
            · have h1' : ((s[k + 1].toNat : Int) == 1) = false := by simpa using h1
              have H1 : Hid (¬ s[k + 1] = 1) := of_decide_eq_false ((byte_is s[k + 1] 1).symm.trans h1')
              by_cases h2 : ((s[k + 1].toNat : Int) == 255) = true
              · have h22 : s[k + 1] = 255 := of_decide_eq_true ((byte_is s[k + 1] 255).symm.trans h2)
                have H2 : Hid (s[k + 1] = 255) := h22
                clear h22
                go_wp2_with (at_builtin; refine append_byte rfl (.tmp 47) (.tmp 48) rfl w.heap.size _ t rfl _ HO.out _ 0 rfl _ rfl rfl (by omega) hsz ?_; intro v' w1 hown1 hgrow1)
                go_roundw
                case rel => exact ⟨k + 1 + 1, t ++ [0], by omega, by go_num, hown1, below_append hnx hsz HO.out hgrow1, by simp; omega, by
                  have h := HQ.out; rw [H2.out] at h; rw [encT_snoc, if_pos rfl, List.append_assoc]; exact h⟩
                case measure => simp [intOf]; omega
              · have h2' : ((s[k + 1].toNat : Int) == 255) = false := by simpa using h2
                have H2 : Hid (¬ s[k + 1] = 255) := of_decide_eq_false ((byte_is s[k + 1] 255).symm.trans h2')
                go_wp2
                go_ret3
                exact ⟨⟨_, _, _, rfl, Nat.zero_le _, .inr ⟨rfl, no_other HQ.out H1.out H2.out⟩⟩, hnx⟩
          · have hne : ((k : Int) + 1 == (s.size : Int)) = true := by simp; omega
            have HE : Hid (s.data.toList.drop (k + 1) = []) := List.drop_of_length_le (by rw [list_len]; omega)
            go_wp2
            go_ret3
            exact ⟨⟨_, _, _, rfl, Nat.zero_le _, .inr ⟨rfl, no_zero (x := t) (by have h := HS.out; rw [HD.out, HE.out, HZ.out] at h; exact h)⟩⟩, hnx⟩
        · have hz' : ((s[k].toNat : Int) == 0) = false := by simpa using hz
          have HZ : Hid (¬ s[k] = 0) := of_decide_eq_false ((byte_zero s[k]).symm.trans hz')
          go_wp2_with (at_builtin; refine append_byte rfl (.tmp 22) (.tmp 26) rfl w.heap.size _ t rfl _ HO.out _ s[k] rfl _ rfl rfl (by omega) hsz ?_; intro v' w1 hown1 hgrow1)
          go_roundw
          case rel => exact ⟨k + 1, t ++ [s[k]], by omega, by go_num, hown1, below_append hnx hsz HO.out hgrow1, by simp; omega, by
            have h := HS.out; rw [HD.out] at h; rw [encT_snoc, if_neg HZ.out, List.append_assoc]; exact h⟩
          case measure => simp [intOf]; omega
      · have hd : decide (((t.length : Nat) : Int) ≤ 64) = false := decide_eq_false (by omega)
        go_wp2
        go_ret3
        exact ⟨⟨_, _, _, rfl, Nat.zero_le _, .inr ⟨rfl, no_long HS.out (by omega)⟩⟩, hnx⟩
    · have HE : Hid (s.data.toList.drop k = []) := List.drop_of_length_le (by rw [list_len]; omega)
      have hd : decide ((k : Int) < (s.size : Int)) = false := decide_eq_false (by omega)
      go_wp2
      go_ret3
      exact ⟨⟨_, _, _, rfl, Nat.zero_le _, .inr ⟨rfl, no_end (x := t) (by have h := HS.out; rw [HE.out] at h; exact h)⟩⟩, hnx⟩
end Go.Proofs.Ytkjiaeolodemlaf.vl
