/- The walk of Back. -/
import Derived.Test.YtkjiaeolodemlafValRead
namespace Go.Proofs.Ytkjiaeolodemlaf.vl
open Go.ChangeShapes Go.WideShapes Go.ChangeAt Go.RowKit
set_option linter.unusedVariables false
set_option linter.unusedSimpArgs false

def strLen : Value → Nat
  | .string q => q.size
  | _ => 0
theorem strLen_mk (q : ByteArray) : strLen (.string q) = q.size := rfl

def backRes (s : ByteArray) (base : Nat) (e : Ending) (w' : World) : Prop :=
  (∃ r ad cap, e = .returned (.tuple #[.slice ad r.length cap, .int .i64 0]) ∧ rowOk r ∧ encR r = s.data.toList ∧ ownV w' base (.slice ad r.length cap) r) ∨
  (e = .returned (.tuple #[.slice none 0 0, .int .i64 1]) ∧ noKey s.data.toList)
theorem list_ne {q : ByteArray} (h : 0 < q.size) : q.data.toList ≠ [] := fun e => by
  have := list_len q
  rw [e] at this
  simp at this
  omega

set_option maxRecDepth 10000 in
set_option maxHeartbeats 4000000 in
theorem back_any (s : ByteArray) (w : World) (hm : s.size ≤ maxLen) :
    Calls Try.prog 46 #[.string s] w fun e w' => backRes s w.heap.size e w' ∧ Below w.heap.size w w' := by
  have HM : Hid (s.size ≤ maxLen) := hm
  unfold maxLen at hm
  go_enter Try.func46, Try.ntmps46
  go_wp2
  go_loopw [0, 4] (fun t v wr => ∃ (q : ByteArray) (r : List Cel), t = .string q ∧ q.size ≤ s.size ∧ ownV wr w.heap.size v r ∧ Below w.heap.size w wr ∧ r.length ≤ 8 ∧ (∀ c ∈ r, c.ok ∧ c.wf) ∧ s.data.toList = encR r ++ q.data.toList) (fun t _ _ => strLen t)
  case atStart => exact ⟨s, [], rfl, Nat.le_refl _, World.ownsRow_nil _ _ _ _, Below.refl _ _, by simp, by simp, rfl⟩
  case round =>
    obtain ⟨q, r, rfl, hq, hown, hnx, h8, hall, hsp⟩ := hrel
    obtain ⟨ad, cap, hv⟩ := ownV_form hown
    subst hv
    have HO : Hid (ownV wr w.heap.size (.slice ad r.length cap) r) := hown
    have HA : Hid (∀ c ∈ r, c.ok ∧ c.wf) := hall
    have HS : Hid (s.data.toList = encR r ++ q.data.toList) := hsp
    have hsz := hnx.size
    have hqm : q.size ≤ maxLen := Nat.le_trans hq HM.out
    have HQ : Hid (q.size ≤ maxLen) := hqm
    unfold maxLen at hqm
    clear hown hall hsp
    by_cases hz : 0 < q.size
    · have HN : Hid (q.data.toList ≠ []) := list_ne hz
      go_wp2_with fail
      refine (readCell_any q _ hz HQ.out).mono ?_
      rintro e w1 ⟨⟨c, rs, ok, rfl, hwf, hres⟩, hb1⟩
      obtain ⟨k, n, t⟩ := c
      have HW : Hid ((⟨k, n, t⟩ : Cel).wf) := hwf
      have HR : Hid (resOk q.data.toList ⟨k, n, t⟩ rs ok) := hres
      have ht : t.size ≤ maxLen := hwf.2
      have hl1 := hnx.trans (hb1.mono hsz)
      have ho1 := ownV_below HO.out hb1
      clear hres hwf
      cases ok with
      | false =>
        go_wp2
        go_ret2
        exact ⟨.inr ⟨rfl, noKey_cell HA.out HS.out HN.out (by
          rcases HR.out with ⟨h, _⟩ | ⟨_, h⟩
          · cases h
          · exact h)⟩, by repeat (first | exact hl1 | (refine Below.setCell ?_ (by have := hl1.size; simp; omega) _) | (refine Below.alloc ?_ (by have := hl1.size; simp; omega) _))⟩
      | true =>
        by_cases hc : (chk k n t == 0) = true
        · have HC : Hid (chk k n t = 0) := by
            show chk k n t = 0
            simpa using hc
          have HL : Hid (q.data.toList = encC ⟨k, n, t⟩ ++ rs.data.toList) := by
            show q.data.toList = _
            rcases HR.out with ⟨_, _, h⟩ | ⟨h | h, _⟩
            · exact h
            · cases h
            · exact absurd HC.out h
          have hrs : rs.size < q.size := by
            have h1 := congrArg List.length HL.out
            rw [List.length_append, list_len, list_len] at h1
            have h2 : 0 < (encC ⟨k, n, t⟩).length := List.length_pos_iff.2 (encC_ne HC.out)
            omega
          by_cases h88 : r.length = 8
          · have h88' : ((r.length : Int) == 8) = true := by rw [beq_iff_eq]; omega
            go_wp2_with (go_at_call 50; refine (check_any _ _ _ _ ht).mono ?_; rintro e wc ⟨rfl, hbc⟩; have hlow := (hl1.alloc hl1.size _).trans (hbc.mono (by have := hl1.size; simp; omega)))
            go_ret2
            exact ⟨.inr ⟨rfl, noKey_long HA.out HS.out HN.out h88⟩, hlow⟩
          · have h88' : ((r.length : Int) == 8) = false := by rw [beq_eq_false_iff_ne]; omega
            go_wp2_with (first
              | (go_at_call 50; refine (check_any _ _ _ _ ht).mono ?_; rintro e wc ⟨rfl, hbc⟩; have hlow := (hl1.alloc hl1.size _).trans (hbc.mono (by have := hl1.size; simp; omega)); have hoc := ownV_below (ownV_alloc ho1 _) hbc; have hcc := cell_later hbc (a := ⟨w1.heap.size, 0, none⟩) (v := .int .i64 k) (by go_simp); have hcn := cell_later hbc (a := ⟨w1.heap.size, 1, none⟩) (v := .int .i64 n) (by go_simp); have hcs := cell_later hbc (a := ⟨w1.heap.size, 2, none⟩) (v := .string t) (by go_simp))
              | (at_builtin; refine append_cell rfl (.tmp 29) (.tmp 31) rfl w.heap.size _ r rfl _ hoc ⟨k, n, t⟩ _ rfl rfl (by omega) hlow.size ?_; intro v' w2 hown2 hgrow2))
            go_roundw
            case rel => exact ⟨rs, r ++ [⟨k, n, t⟩], rfl, by omega, hown2, below_appendV hlow hlow.size hoc hgrow2, by rw [List.length_append]; simp; omega, fun c hc => by
              rcases List.mem_append.1 hc with h | h
              · exact HA.out c h
              · rw [List.mem_singleton.1 h]; exact ⟨HC.out, HW.out⟩, by rw [HS.out, encR_snoc, List.append_assoc, HL.out]⟩
            case measure => exact hrs
        · have hc' : (chk k n t == 0) = false := by simpa using hc
          have HC : Hid (¬ (⟨k, n, t⟩ : Cel).ok) := fun h => hc (beq_iff_eq.2 h)
          go_wp2_with (go_at_call 50; refine (check_any _ _ _ _ ht).mono ?_; rintro e wc ⟨rfl, hbc⟩; have hlow := (hl1.alloc hl1.size _).trans (hbc.mono (by have := hl1.size; simp; omega)))
          go_ret2
          exact ⟨.inr ⟨rfl, noKey_cell HA.out HS.out HN.out (by
            rcases HR.out with ⟨_, h, _⟩ | ⟨_, h⟩
            · exact absurd h HC.out
            · exact h)⟩, hlow⟩
    · have HE : Hid (q.data.toList = []) := List.eq_nil_of_length_eq_zero (by rw [list_len]; omega)
      go_wp2
      go_ret2
      exact ⟨.inl ⟨r, ad, cap, rfl, ⟨h8, HA.out⟩, by have h := HS.out; rw [HE.out, List.append_nil] at h; exact h.symm, HO.out⟩, hnx⟩

/-- of a key: its row, in memory of its own -/
theorem back_yes (s : ByteArray) (r : List Cel) (w : World) (hm : s.size ≤ maxLen) (hr : rowOk r) (hk : encR r = s.data.toList) :
    Calls Try.prog 46 #[.string s] w fun e w' => (∃ ad cap, e = .returned (.tuple #[.slice ad r.length cap, .int .i64 0]) ∧ ownV w' w.heap.size (.slice ad r.length cap) r) ∧ Below w.heap.size w w' := by
  refine (back_any s w hm).mono fun e w' ⟨h, hb⟩ => ⟨?_, hb⟩
  rcases h with ⟨r', ad, cap, he, h1, h2, h3⟩ | ⟨_, h⟩
  · obtain ⟨r2, e1, e2⟩ := encR_split r' r [] h1.2 hr.2 (by rw [List.append_nil, h2, hk])
    have : r2 = [] := by
      cases r2 with
      | nil => rfl
      | cons d r2 =>
        have hd := hr.2 d (by rw [e1]; simp)
        have e3 : encR (d :: r2) = encC d ++ encR r2 := rfl
        rw [e3] at e2
        have := (List.append_eq_nil_iff.1 e2.symm).1
        exact absurd this (encC_ne hd.1)
    subst this
    rw [List.append_nil] at e1
    subst e1
    exact ⟨ad, cap, he, h3⟩
  · exact absurd hk (h r hr)
theorem back_no (s : ByteArray) (w : World) (hm : s.size ≤ maxLen) (hn : noKey s.data.toList) :
    Calls Try.prog 46 #[.string s] w fun e w' => e = .returned (.tuple #[.slice none 0 0, .int .i64 1]) ∧ Below w.heap.size w w' := by
  refine (back_any s w hm).mono fun e w' ⟨h, hb⟩ => ⟨?_, hb⟩
  rcases h with ⟨r', ad, cap, he, h1, h2, h3⟩ | ⟨h, _⟩
  · exact absurd h2 (hn r' h1)
  · exact h
end Go.Proofs.Ytkjiaeolodemlaf.vl
