/- The reference's front at an Int and at a Text; front whole. -/
import Derived.Test.YtkjiaeolodemladValFront2
namespace Go.Proofs.Ytkjiaeolodemlad.vl
open Go.ChangeShapes Go.WideShapes Go.ChangeAt Go.RowKit
set_option linter.unusedVariables false
set_option linter.unusedSimpArgs false

theorem drop1_take (s : ByteArray) (j : Nat) (h : j + 1 < s.size) : (s.data.toList.drop 1).take (j + 1) = (s.data.toList.drop 1).take j ++ [s[j + 1]] := by
  rw [List.take_succ_eq_append_getElem (by rw [List.length_drop, list_len]; omega)]
  congr 2
  simp only [List.getElem_drop]
  have : 1 + j = j + 1 := by omega
  simp only [this]
  rfl

theorem wrap_zero : wrap64 (((beVal ([] : List UInt8) : Nat)) : Int) = 0 := by
  have : beVal ([] : List UInt8) = 0 := rfl
  rw [this]
  unfold wrap64
  omega

set_option maxHeartbeats 4000000 in
theorem front_int (s : ByteArray) (w : World) (hs : 0 < s.size) (hm : s.size ≤ maxLen) (h0 : s[0] = 2) (hz : 8 < s.size) :
    Calls Try.prog 36 #[.string s] w fun e w' => frontRes s e ∧ Below w.heap.size w w' := by
  have HR : Hid (reads s.data.toList ⟨2, (beVal ((s.data.toList.drop 1).take 8) : Int) - 9223372036854775808, ⟨#[]⟩⟩ 9) := by
    show reads s.data.toList _ 9
    rw [list_tail s hs, h0]
    exact reads_int _ (by rw [List.length_drop, list_len]; omega)
  have hk : (s[0].toNat : Int) = 2 := by rw [h0]; rfl
  clear h0
  have hm' := hm
  unfold maxLen at hm'
  have i0 : (0 : Int) < (s.size : Int) := by omega
  have iz : ((s.size : Int) == 0) = false := by rw [beq_eq_false_iff_ne]; omega
  have b0 : (s[0].toNat : Int) ≤ 255 := by have := s[0].toNat_lt; omega
  go_enter Try.func36, Try.ntmps36
  go_wp2
  go_loop [5, 6] (fun n i => ∃ j : Nat, j ≤ 8 ∧ i = .int .i64 ((j : Int) + 1) ∧ n = .int .i64 (wrap64 (beVal ((s.data.toList.drop 1).take j) : Int))) (fun _ i => (9 - intOf i).toNat)
  case atStart => exact ⟨0, by omega, rfl, by rw [List.take_zero, wrap_zero]⟩
  case round =>
    obtain ⟨j, hj, rfl, rfl⟩ := hrel
    obtain ⟨u, hu⟩ : ∃ u, beVal ((s.data.toList.drop 1).take j) = u := ⟨_, rfl⟩
    have HU : Hid (beVal ((s.data.toList.drop 1).take j) = u) := hu
    rw [hu]
    clear hu
    by_cases hlt : j < 8
    · have hlt2 : j + 1 < s.size := by omega
      have hub : u < 72057594037927936 := by
        have h1 := beVal_bound ((s.data.toList.drop 1).take j)
        rw [HU.out, List.length_take, List.length_drop, list_len] at h1
        have h2 : 256 ^ (min j (s.size - 1)) ≤ 256 ^ 7 := Nat.pow_le_pow_right (by omega) (by omega)
        omega
      have HUB : Hid (u < 72057594037927936) := hub
      have hwu : wrap64 (u : Int) = (u : Int) := by unfold wrap64; omega
      have HT : Hid (beVal ((s.data.toList.drop 1).take (j + 1)) = u * 256 + s[j + 1].toNat) := by
        show beVal ((s.data.toList.drop 1).take (j + 1)) = _
        rw [drop1_take s j hlt2, beVal_snoc, HU.out]
      have b1 : (s[j + 1].toNat : Int) ≤ 255 := by have := s[j + 1].toNat_lt; omega
      have hj1 : (0 : Int) ≤ (j : Int) + 1 := by omega
      have hj2 : (j : Int) + 1 < (s.size : Int) := by omega
      go_wp2
      go_round
      case rel => exact ⟨j + 1, by omega, by go_num, by rw [HT.out, or_byte2 u _ HUB.out s[j + 1].toNat_lt]⟩
      case measure => simp [intOf]; omega
    · have h8 : j = 8 := by omega
      subst h8
      have HB : Hid (u < 18446744073709551616) := by
        show u < 18446744073709551616
        rw [← HU.out]
        exact beVal_lt _ (by rw [List.length_take, List.length_drop, list_len]; omega)
      have hxb := xor_back2 u HB.out
      go_wp2
      exact bodyPost_ret (v := .tuple #[.agg #[.int .i64 2, .int .i64 ((u : Int) - 9223372036854775808), .string ⟨#[]⟩], .int .i64 9]) (by simp [results, Try.results36, go_sem]) rfl
        ⟨⟨⟨2, _, ⟨#[]⟩⟩, 9, rfl, hz, wf0 _ _ (by have := HB.out; omega) (by have := HB.out; omega), by have h := HR.out; rw [HU.out] at h; exact h⟩, by repeat (first | exact Below.refl _ _ | (refine below_drewN ?_ _) | apply Below.drew | (refine Below.setCell ?_ (by simp) _) | (refine Below.alloc ?_ (by simp <;> omega) _))⟩

theorem append_byteL {ops : Array Oper} {rest : List Oper} {o : Oper} {a : Act} {Q : Exit → Act → World → Prop} (hgd : o.guard = none) (s x : Operand)
    (ho : o.op = .call { callee := .builtin .append, args := #[s, x], argTypes := #[48, 48] }) (base : Nat) (v : Value) (l : List UInt8) (hs : a.eval s = v) (w0 : World)
    (hown : ownB w0 base v l) (X : Value) (b : UInt8) (hX : X = byteV b) (B : Nat) (hB : w0.heap.size = B) (hx : a.eval x = .slice (some ⟨B, 0, none⟩) 1 1) (hl : l.length + 1 ≤ 140737488355328) (hb : base ≤ w0.heap.size)
    (h : ∀ v' w', ownB w' base v' (l ++ [b]) → (w0.alloc (.cells #[X] 5)).grownBy w' v.ownBlock → wpList Try.prog ops Q rest (a.put o.dst v') w') :
    wpList Try.prog ops Q (o :: rest) a (w0.alloc (.cells #[X] 5)) := by
  subst hX
  subst hB
  obtain ⟨i0, hi, hz0, hz1, hz2⟩ := info_parts Try.info5
  refine wpList_append_own _ hgd s x 48 ho base 5 i0 (.int .u8 0) 1 1 Try.underlying48 hi hz0 hz1 hz2 rfl (by decide) v l.length (l.map byteV) hs
    (World.ownsRow.alloc hown _) ⟨w0.heap.size, 0, none⟩ 1 1 [byteV b] hx rfl (cell_one_new _ _ _) (by intro u hu; simp at hu; subst hu; rfl) (by unfold maxLen; omega) (by omega) (by simp; omega) ?_
  intro v' w' h1 h2 _
  refine h v' w' ?_ h2
  unfold ownB
  rw [List.length_append, List.map_append]
  exact h1

theorem bcell {W w1 : World} {B : Nat} (hb : Below B W w1) : (∀ b o, b < B → w1.cell? ⟨b, o, none⟩ = W.cell? ⟨b, o, none⟩) ∧ (∀ b o, b < B → w1.frozen? ⟨b, o, none⟩ = W.frozen? ⟨b, o, none⟩) :=
  ⟨fun b o h => hb.cell (p := ⟨b, o, none⟩) h, fun b o h => hb.frozen (p := ⟨b, o, none⟩) h⟩

set_option maxRecDepth 10000 in
set_option maxHeartbeats 4000000 in
theorem front_text (s : ByteArray) (w : World) (hs : 0 < s.size) (hm : s.size ≤ 140737488355328) (h0 : s[0] = 3) :
    Calls Try.prog 36 #[.string s] w fun e w' => frontRes s e ∧ Below w.heap.size w w' := by
  have HH : Hid (s[0] = 3) := h0
  have hk : (s[0].toNat : Int) = 3 := by rw [h0]; rfl
  clear h0
  have i0 : (0 : Int) < (s.size : Int) := by omega
  have iz : ((s.size : Int) == 0) = false := by rw [beq_eq_false_iff_ne]; omega
  have b0 : (s[0].toNat : Int) ≤ 255 := by have := s[0].toNat_lt; omega
  go_enter Try.func36, Try.ntmps36
  go_wp2
  go_loopw [7, 8] (fun v i wr => ∃ (k : Nat) (t : List UInt8), 1 ≤ k ∧ k ≤ s.size ∧ t.length < k ∧ i = .int .i64 k ∧ ownB wr (w.heap.size + 2) v t ∧ Below (w.heap.size + 2) ((w.alloc (.cells #[.int .i64 0, .int .i64 0, .string ⟨#[]⟩] 23)).alloc (.cells #[.int .i64 3, .int .i64 0, .string ⟨#[]⟩] 23)) wr ∧ good s t k) (fun _ i _ => s.size - (intOf i).toNat)
  case atStart => exact ⟨1, [], Nat.le_refl _, hs, by simp, rfl, World.ownsRow_nil _ _ _ _, Below.refl _ _, good_start s⟩
  case round =>
    obtain ⟨k, t, hk1, hk, htk, rfl, hown, hnx, hg⟩ := hrel
    have HO : Hid (ownB wr (w.heap.size + 2) u7 t) := hown
    have HG : Hid (good s t k) := hg
    have hsz := hnx.size
    simp only [World.size_alloc] at hsz
    have hbr : w.heap.size + 2 ≤ wr.heap.size := by omega
    have hbl0 : Below w.heap.size w ((w.alloc (.cells #[.int .i64 0, .int .i64 0, .string ⟨#[]⟩] 23)).alloc (.cells #[.int .i64 3, .int .i64 0, .string ⟨#[]⟩] 23)) := ((Below.refl _ _).alloc (Nat.le_refl _) _).alloc (by simp) _
    have hbl : Below w.heap.size w wr := hbl0.trans (hnx.mono (by omega))
    have c10 : wr.cell? ⟨w.heap.size + 1, 0, none⟩ = some (.int .i64 3) := (hnx.cell (by simp)).trans (by go_simp)
    have c11 : wr.cell? ⟨w.heap.size + 1, 1, none⟩ = some (.int .i64 0) := (hnx.cell (by simp)).trans (by go_simp)
    have c12 : wr.cell? ⟨w.heap.size + 1, 2, none⟩ = some (.string ⟨#[]⟩) := (hnx.cell (by simp)).trans (by go_simp)
    have c00 : wr.cell? ⟨w.heap.size, 0, none⟩ = some (.int .i64 0) := (hnx.cell (by simp)).trans (by go_simp)
    have c01 : wr.cell? ⟨w.heap.size, 1, none⟩ = some (.int .i64 0) := (hnx.cell (by simp)).trans (by go_simp)
    have c02 : wr.cell? ⟨w.heap.size, 2, none⟩ = some (.string ⟨#[]⟩) := (hnx.cell (by simp)).trans (by go_simp)
    have f10 : wr.frozen? ⟨w.heap.size + 1, 0, none⟩ = false := (hnx.frozen (by simp)).trans (by go_simp)
    have f12 : wr.frozen? ⟨w.heap.size + 1, 2, none⟩ = false := (hnx.frozen (by simp)).trans (by go_simp)
    have f00 : wr.frozen? ⟨w.heap.size, 0, none⟩ = false := (hnx.frozen (by simp)).trans (by go_simp)
    have f01 : wr.frozen? ⟨w.heap.size, 1, none⟩ = false := (hnx.frozen (by simp)).trans (by go_simp)
    have f02 : wr.frozen? ⟨w.heap.size, 2, none⟩ = false := (hnx.frozen (by simp)).trans (by go_simp)
    clear hown hg
    by_cases hlt : k + 1 < s.size
    · have hkk : (k : Int) + 1 < (s.size : Int) := by omega
      have hlk : k < s.size := by omega
      by_cases hz : ((s[k].toNat : Int) == 0) = true
      · have hz1 : s[k] = 0 := of_decide_eq_true ((byte_zero s[k]).symm.trans hz)
        have HZ : Hid (s[k] = 0) := hz1
        clear hz1
        by_cases h1 : ((s[k + 1].toNat : Int) == 1) = true
        · have h11 : s[k + 1] = 1 := of_decide_eq_true ((byte_is s[k + 1] 1).symm.trans h1)
          have H1 : Hid (s[k + 1] = 1) := h11
          clear h11
          have hcv := conv_own HO.out
          go_wp2
          exact bodyPost_ret (v := .tuple #[.agg #[.int .i64 3, .int .i64 0, .string ⟨t.toArray⟩], .int .i64 ((k : Int) + 2)]) (by simp [results, Try.results36, go_sem, c10, c11, c12, c00, c01, c02]) rfl
            ⟨⟨⟨3, 0, ⟨t.toArray⟩⟩, k + 2, rfl, by omega, ⟨⟨by show (-9223372036854775808 : Int) ≤ 0; decide, by show (0 : Int) ≤ 9223372036854775807; decide⟩, by show t.toArray.size ≤ maxLen; unfold maxLen; simp; omega⟩, reads_text s hs HH.out t k hlt HG.out HZ.out H1.out⟩, by repeat (first | exact hbl | (refine Below.setCell ?_ (by simp) _))⟩
        · have h1' : ((s[k + 1].toNat : Int) == 1) = false := by simpa using h1
          have H1 : Hid (¬ s[k + 1] = 1) := of_decide_eq_false ((byte_is s[k + 1] 1).symm.trans h1')
          go_wp2_with (at_builtin; refine append_byteL rfl (.tmp 82) (.tmp 83) rfl (w.heap.size + 2) _ t rfl _ HO.out _ 0 rfl _ rfl rfl (by omega) hbr ?_; intro v' w1 hown1 hgrow1)
          go_roundw
          case rel => exact ⟨k + 1 + 1, t ++ [0], by omega, by omega, by simp; omega, by go_num, hown1, below_append hnx hbr HO.out hgrow1, good_zero HG.out hlt HZ.out H1.out⟩
          case measure => simp [intOf]; omega
      · have hz' : ((s[k].toNat : Int) == 0) = false := by simpa using hz
        have HZ : Hid (¬ s[k] = 0) := of_decide_eq_false ((byte_zero s[k]).symm.trans hz')
        go_wp2_with (at_builtin; refine append_byteL rfl (.tmp 65) (.tmp 69) rfl (w.heap.size + 2) _ t rfl _ HO.out _ s[k] rfl _ rfl rfl (by omega) hbr ?_; intro v' w1 hown1 hgrow1)
        go_roundw
        case rel => exact ⟨k + 1, t ++ [s[k]], by omega, by omega, by simp; omega, by go_num, hown1, below_append hnx hbr HO.out hgrow1, good_byte HG.out hlk HZ.out⟩
        case measure => simp [intOf]; omega
    · have HN : Hid (noCell s.data.toList) := by
        show noCell s.data.toList
        rw [list_tail s hs, HH.out]
        exact no_text (good_none HG.out (by omega))
      have hkk : decide ((k : Int) + 1 < (s.size : Int)) = false := decide_eq_false (by omega)
      go_wp2
      exact bodyPost_ret (v := .tuple #[.agg #[.int .i64 3, .int .i64 0, .string ⟨#[]⟩], .int .i64 0]) (by simp [results, Try.results36, go_sem, c10, c11, c12, c00, c01, c02]) rfl
        ⟨⟨⟨3, 0, ⟨#[]⟩⟩, 0, rfl, Nat.zero_le _, wf0 _ _ (by decide) (by decide), reads_no HN.out _ _⟩, by repeat (first | exact hbl | (refine Below.setCell ?_ (by simp) _))⟩

theorem front_any (s : ByteArray) (w : World) (hm : s.size ≤ 140737488355328) :
    Calls Try.prog 36 #[.string s] w fun e w' => frontRes s e ∧ Below w.heap.size w w' := by
  have hm' : s.size ≤ maxLen := by unfold maxLen; omega
  by_cases hs : s.size = 0
  · exact front_empty s w hs
  · have hs' : 0 < s.size := by omega
    by_cases h0 : s[0] = 0
    · exact front_null s w hs' hm' h0
    · by_cases h1 : s[0] = 1
      · by_cases hz : 1 < s.size
        · exact front_bool s w hs' hm' h1 hz
        · exact front_bool0 s w hs' hm' h1 hz
      · by_cases h2 : s[0] = 2
        · by_cases hz : 8 < s.size
          · exact front_int s w hs' hm' h2 hz
          · exact front_int0 s w hs' hm' h2 hz
        · by_cases h3 : s[0] = 3
          · exact front_text s w hs' hm h3
          · exact front_other s w hs' hm' h0 h1 h2 h3
end Go.Proofs.Ytkjiaeolodemlad.vl
