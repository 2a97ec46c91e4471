/- The reference's Back: the row of a key; other bytes: none. -/
import Derived.Test.YtkjiaeolodemladValFront3
namespace Go.Proofs.Ytkjiaeolodemlad.vl
open Go.ChangeShapes Go.WideShapes Go.ChangeAt Go.RowKit
set_option linter.unusedVariables false
set_option linter.unusedSimpArgs false

theorem extract_list (q : ByteArray) (m : Nat) : (q.extract m q.size).data.toList = q.data.toList.drop m := Lib.extract_to_end q m
theorem extract_size (q : ByteArray) (m : Nat) : (q.extract m q.size).size = q.size - m := by rw [ByteArray.size_extract]; omega

set_option maxRecDepth 10000 in
set_option maxHeartbeats 4000000 in
theorem rback_yes (s : ByteArray) (r : List Cel) (w : World) (hm : s.size ≤ 140737488355328) (hr : rowOk r) (hk : encR r = s.data.toList) :
    Calls Try.prog 19 #[.string s] w fun e w' => (∃ ad cap, e = .returned (.tuple #[.slice ad r.length cap, .bool true]) ∧ rowAt w' ad r) ∧ Below w.heap.size w w' := by
  obtain ⟨n, hn⟩ : ∃ n, r.length = n := ⟨_, rfl⟩
  have HN : Hid (r.length = n) := hn
  have h8 := hr.1
  have HOKR : Hid (rowOk r) := hr
  have HKS : Hid (encR r = s.data.toList) := hk
  have KE : Hid (∀ w ad cap, rowAt w ad r → Calls Try.prog 14 #[.slice ad n cap] w fun e w' => e = .returned (.int .i64 0) ∧ Below w.heap.size w w') := by
    subst hn
    intro w ad cap h
    exact (keyError_any ad cap r w h (wfRow_ok hr) (by omega)).mono fun e w' ⟨he, hb⟩ => ⟨he.trans (ret_int (keyErr_ok hr)), hb⟩
  have KK : Hid (∀ w ad cap, rowAt w ad r → Calls Try.prog 15 #[.slice ad n cap] w fun e w' => e = .returned (.string s) ∧ Below w.heap.size w w') := by
    subst hn
    intro w ad cap h
    have e : (⟨(encR r).toArray⟩ : ByteArray) = s := str_eq hk
    rw [← e]
    exact rkey_any ad cap r w h hr
  rw [hn] at h8 ⊢
  clear hn hr hk
  go_enter Try.func19, Try.ntmps19
  go_wp2
  go_loopw [4, 5] (fun v t wr => ∃ (j : Nat) (q : ByteArray), j ≤ n ∧ t = .string q ∧ q.size ≤ s.size ∧ ownV wr w.heap.size v (r.take j) ∧ Below w.heap.size w wr ∧ q.data.toList = encR (r.drop j)) (fun _ t _ => strLen t)
  case atStart => exact ⟨0, s, Nat.zero_le _, rfl, Nat.le_refl _, World.ownsRow_nil _ _ _ _, Below.refl _ _, HKS.out.symm⟩
  case round =>
    obtain ⟨j, q, hj, rfl, hq, hown, hnx, hql⟩ := hrel
    have hlj : (r.take j).length = j := by rw [List.length_take, HN.out]; omega
    obtain ⟨ad, cap, hv⟩ := ownV_form hown
    rw [hlj] at hv
    subst hv
    have HO : Hid (ownV wr w.heap.size (.slice ad j cap) (r.take j)) := hown
    have HQ : Hid (q.data.toList = encR (r.drop j)) := hql
    have hsz := hnx.size
    clear hown hql hlj
    by_cases hlt : j < n
    · have hj8 : ((j : Nat) : Int) ≤ 8 := by omega
      have hc0 := HOKR.out.2 (r.getD j default) (by simp [List.getD_eq_getElem?_getD, show j < r.length by rw [HN.out]; exact hlt])
      have HL : Hid (q.data.toList = encC (r.getD j default) ++ encR (r.drop (j + 1))) := by
        show q.data.toList = _
        rw [HQ.out, drop_getD r j (by rw [HN.out]; exact hlt)]; rfl
      have HT : Hid (r.take (j + 1) = r.take j ++ [r.getD j default]) := take_getD r j (by rw [HN.out]; exact hlt)
      have hpos : 0 < (encC (r.getD j default)).length := List.length_pos_iff.2 (encC_ne hc0.1)
      have hz : 0 < q.size := by
        have h1 := congrArg List.length HL.out
        rw [List.length_append, list_len] at h1
        omega
      go_wp2_with fail
      refine (front_any q _ (by omega)).mono ?_
      rintro e w1 ⟨⟨c, m, rfl, hmq, hwf, hrd⟩, hb1⟩
      obtain ⟨ec, em⟩ := hrd _ _ hc0.1 hc0.2 HL.out
      have HEC : Hid (c = r.getD j default) := ec
      have HEM : Hid (m = (encC (r.getD j default)).length) := em
      have hm0 : 0 < m := by omega
      have hmz : ((m : Int) == 0) = false := by rw [beq_eq_false_iff_ne]; omega
      have hmi : (m : Int) ≤ (q.size : Int) := by omega
      clear ec em hrd hwf hc0 hpos
      obtain ⟨k, nn, t⟩ := c
      have hl1 := hnx.trans (hb1.mono hsz)
      have ho1 := ownV_below HO.out hb1
      go_wp2_with (at_builtin; refine append_cell rfl (.tmp 24) (.tmp 26) rfl w.heap.size _ (r.take j) rfl _ (ownV_alloc ho1 _) ⟨k, nn, t⟩ (w1.heap.size + 1) (by simp) rfl (by rw [List.length_take]; omega) (by have := hl1.size; simp; omega) ?_; intro v' w2 hown2 hgrow2)
      go_roundw
      case rel => exact ⟨j + 1, _, by omega, rfl, by rw [extract_size]; omega, by rw [HT.out, ← HEC.out]; exact hown2, below_appendV (hl1.alloc hl1.size _) (by have := hl1.size; simp; omega) (ownV_alloc ho1 _) hgrow2, by rw [extract_list, HL.out, HEM.out, List.drop_left]⟩
      case measure => show (q.extract m q.size).size < q.size; rw [extract_size]; omega
    · have hjn : j = n := by omega
      subst hjn
      have hre : r.take j = r := List.take_of_length_le (by rw [HN.out]; omega)
      have HO2 : Hid (ownV wr w.heap.size (.slice ad j cap) r) := by have h := HO.out; rw [hre] at h; exact h
      have hqz : ¬ 0 < q.size := by
        have h1 := congrArg List.length HQ.out
        rw [list_len, List.drop_of_length_le (by rw [HN.out]; omega)] at h1
        have h2 : (encR ([] : List Cel)).length = 0 := rfl
        rw [h2] at h1
        omega
      have hqd : decide ((0 : Int) < (q.size : Int)) = false := decide_eq_false (by omega)
      have HRA : Hid (rowAt wr ad r) := ownV_row (r := r) (cap := cap) (by rw [HN.out]; exact HO2.out)
      clear hre HO
      go_wp2_with fail
      refine (KE.out _ ad cap HRA.out).mono ?_
      rintro e wk ⟨rfl, hbk⟩
      have HRB : Hid (rowAt wk ad r) := rowAt_below HRA.out hbk
      have hl1 := hnx.trans (hbk.mono hsz)
      go_wp2_with fail
      refine (KK.out _ ad cap HRB.out).mono ?_
      rintro e wl ⟨rfl, hbl⟩
      have HRC : Hid (rowAt wl ad r) := rowAt_below HRB.out hbl
      have hl2 := hl1.trans (hbl.mono hl1.size)
      go_wp2
      go_ret2
      exact ⟨⟨ad, cap, rfl, HRC.out⟩, hl2⟩

theorem ne_str {r : List Cel} {s : ByteArray} (h : encR r ≠ s.data.toList) : ((⟨(encR r).toArray⟩ : ByteArray).toList == s.toList) = false := by
  rw [Lib.toList_data, Lib.toList_data, beq_eq_false_iff_ne]
  exact h
theorem rowOk_key2 {r : List Cel} (h : keyErr r = 0) (hw : wfRow r) : rowOk r := by
  unfold keyErr at h
  split at h
  · cases h
  · rename_i h8
    exact ⟨by omega, fun c hc => ⟨all_ok h c hc, hw c hc⟩⟩

set_option maxRecDepth 10000 in
set_option maxHeartbeats 4000000 in
theorem rback_no (s : ByteArray) (w : World) (hm : s.size ≤ 140737488355328) (hn : noKey s.data.toList) :
    Calls Try.prog 19 #[.string s] w fun e w' => e = .returned (.tuple #[.slice none 0 0, .bool false]) ∧ Below w.heap.size w w' := by
  have NK : Hid (noKey s.data.toList) := hn
  clear hn
  go_enter Try.func19, Try.ntmps19
  go_wp2
  go_loopw [4, 5] (fun v t wr => ∃ (r : List Cel) (q : ByteArray), t = .string q ∧ q.size ≤ s.size ∧ ownV wr w.heap.size v r ∧ Below w.heap.size w wr ∧ r.length ≤ 9 ∧ wfRow r) (fun _ t _ => strLen t)
  case atStart => exact ⟨[], s, rfl, Nat.le_refl _, World.ownsRow_nil _ _ _ _, Below.refl _ _, by simp, fun c hc => by cases hc⟩
  case round =>
    obtain ⟨r, q, rfl, hq, hown, hnx, h9, hwf⟩ := hrel
    obtain ⟨ad, cap, hv⟩ := ownV_form hown
    subst hv
    have HO : Hid (ownV wr w.heap.size (.slice ad r.length cap) r) := hown
    have HW : Hid (wfRow r) := hwf
    have HRA : Hid (rowAt wr ad r) := ownV_row hown
    have hsz := hnx.size
    clear hown hwf
    by_cases hz : 0 < q.size
    · by_cases h8 : r.length ≤ 8
      · have h8' : ((r.length : Nat) : Int) ≤ 8 := by omega
        go_wp2_with fail
        refine (front_any q _ (by omega)).mono ?_
        rintro e w1 ⟨⟨c, m, rfl, hmq, hcw, _⟩, hb1⟩
        have HCW : Hid (c.wf) := hcw
        have hl1 := hnx.trans (hb1.mono hsz)
        have ho1 := ownV_below HO.out hb1
        have hmi : (m : Int) ≤ (q.size : Int) := by omega
        clear hcw
        obtain ⟨k, nn, t⟩ := c
        by_cases hm0 : m = 0
        · subst hm0
          go_wp2
          go_ret2
          exact ⟨rfl, hl1.alloc hl1.size _⟩
        · have hmz : ((m : Int) == 0) = false := by rw [beq_eq_false_iff_ne]; omega
          go_wp2_with (at_builtin; refine append_cell rfl (.tmp 24) (.tmp 26) rfl w.heap.size _ r rfl _ (ownV_alloc ho1 _) ⟨k, nn, t⟩ (w1.heap.size + 1) (by simp) rfl (by omega) (by have := hl1.size; simp; omega) ?_; intro v' w2 hown2 hgrow2)
          go_roundw
          case rel => exact ⟨r ++ [⟨k, nn, t⟩], _, rfl, by rw [extract_size]; omega, hown2, below_appendV (hl1.alloc hl1.size _) (by have := hl1.size; simp; omega) (ownV_alloc ho1 _) hgrow2, by rw [List.length_append]; simp; omega, fun c hc => by
            rcases List.mem_append.1 hc with h | h
            · exact HW.out c h
            · rw [List.mem_singleton.1 h]; exact HCW.out⟩
          case measure => show (q.extract m q.size).size < q.size; rw [extract_size]; omega
      · have h8' : decide (((r.length : Nat) : Int) ≤ 8) = false := decide_eq_false (by omega)
        by_cases he : keyErr r = 0
        · have hok2 := rowOk_key2 he HW.out
          have hne := ne_str (NK.out r hok2)
          have KK : Hid (∀ w, rowAt w ad r → Calls Try.prog 15 #[.slice ad r.length cap] w fun e w' => e = .returned (.string ⟨(encR r).toArray⟩) ∧ Below w.heap.size w w') := fun w h => rkey_any ad cap r w h hok2
          have KE : Hid (∀ w, rowAt w ad r → Calls Try.prog 14 #[.slice ad r.length cap] w fun e w' => e = .returned (.int .i64 0) ∧ Below w.heap.size w w') := fun w h =>
            (keyError_any ad cap r w h HW.out (by omega)).mono fun e w' ⟨he', hb⟩ => ⟨he'.trans (ret_int he), hb⟩
          obtain ⟨x, hx⟩ : ∃ x, (⟨(encR r).toArray⟩ : ByteArray) = x := ⟨_, rfl⟩
          rw [hx] at hne KK
          clear hok2 hx he
          go_wp2_with fail
          refine (KE.out _ HRA.out).mono ?_
          rintro e wk ⟨rfl, hbk⟩
          have HRB : Hid (rowAt wk ad r) := rowAt_below HRA.out hbk
          have hl1 := hnx.trans (hbk.mono hsz)
          go_wp2_with fail
          refine (KK.out _ HRB.out).mono ?_
          rintro e wl ⟨rfl, hbl⟩
          have hl2 := hl1.trans (hbl.mono hl1.size)
          go_wp2
          go_ret2
          exact ⟨rfl, hl2⟩
        · have he' : (keyErr r == 0) = false := by simpa using he
          have KE : Hid (∀ w, rowAt w ad r → Calls Try.prog 14 #[.slice ad r.length cap] w fun e w' => e = .returned (.int .i64 (keyErr r)) ∧ Below w.heap.size w w') := fun w h => keyError_any ad cap r w h HW.out (by omega)
          go_wp2_with fail
          refine (KE.out _ HRA.out).mono ?_
          rintro e wk ⟨rfl, hbk⟩
          have hl1 := hnx.trans (hbk.mono hsz)
          go_wp2
          go_ret2
          exact ⟨rfl, hl1⟩
    · have hqd : decide ((0 : Int) < (q.size : Int)) = false := decide_eq_false (by omega)
      by_cases he : keyErr r = 0
      · have hok2 := rowOk_key2 he HW.out
        have hne := ne_str (NK.out r hok2)
        have KK : Hid (∀ w, rowAt w ad r → Calls Try.prog 15 #[.slice ad r.length cap] w fun e w' => e = .returned (.string ⟨(encR r).toArray⟩) ∧ Below w.heap.size w w') := fun w h => rkey_any ad cap r w h hok2
        have KE : Hid (∀ w, rowAt w ad r → Calls Try.prog 14 #[.slice ad r.length cap] w fun e w' => e = .returned (.int .i64 0) ∧ Below w.heap.size w w') := fun w h =>
          (keyError_any ad cap r w h HW.out (by omega)).mono fun e w' ⟨he', hb⟩ => ⟨he'.trans (ret_int he), hb⟩
        obtain ⟨x, hx⟩ : ∃ x, (⟨(encR r).toArray⟩ : ByteArray) = x := ⟨_, rfl⟩
        rw [hx] at hne KK
        clear hok2 hx he
        go_wp2_with fail
        refine (KE.out _ HRA.out).mono ?_
        rintro e wk ⟨rfl, hbk⟩
        have HRB : Hid (rowAt wk ad r) := rowAt_below HRA.out hbk
        have hl1 := hnx.trans (hbk.mono hsz)
        go_wp2_with fail
        refine (KK.out _ HRB.out).mono ?_
        rintro e wl ⟨rfl, hbl⟩
        have hl2 := hl1.trans (hbl.mono hl1.size)
        go_wp2
        go_ret2
        exact ⟨rfl, hl2⟩
      · have he' : (keyErr r == 0) = false := by simpa using he
        have KE : Hid (∀ w, rowAt w ad r → Calls Try.prog 14 #[.slice ad r.length cap] w fun e w' => e = .returned (.int .i64 (keyErr r)) ∧ Below w.heap.size w w') := fun w h => keyError_any ad cap r w h HW.out (by omega)
        go_wp2_with fail
        refine (KE.out _ HRA.out).mono ?_
        rintro e wk ⟨rfl, hbk⟩
        have hl1 := hnx.trans (hbk.mono hsz)
        go_wp2
        go_ret2
        exact ⟨rfl, hl1⟩
end Go.Proofs.Ytkjiaeolodemlad.vl
