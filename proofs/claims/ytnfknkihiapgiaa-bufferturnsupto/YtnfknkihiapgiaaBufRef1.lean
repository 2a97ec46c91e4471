/- The document's ComparePlace and at. -/
import Derived.Test.YtnfknkihiapgiaaBufOwnAt
namespace Go.Proofs.Ytnfknkihiapgiaa.bf
open Go.ChangeShapes Go.WideShapes Go.ChangeAt Go.RowKit
open vl
set_option linter.unusedVariables false
set_option linter.unusedSimpArgs false
theorem keys_ne {a b : ByteArray} (h : a ≠ b) : ¬ a.toList = b.toList := fun e => h (by have := bytes_beq a b; rw [e] at this; simpa using this.symm)
set_option maxRecDepth 100000 in
set_option maxHeartbeats 2000000 in
theorem rcomp_any (e f : EM) (w : World) : Calls Try.prog 55 #[e.val, f.val] w fun r w' => r = .returned (.int .i64 (cmpP e.ent f.ent)) ∧ Below w.heap.size w w' := by
  obtain ⟨R, hR⟩ : ∃ z, cmpP e.ent f.ent = z := ⟨_, rfl⟩
  have HF : Hid (firstNZ [Lib.compareBytes (bl e.key) (bl f.key), ordI e.time f.time, ordI e.seq f.seq] = R) := by
    show _ = _
    rw [← hR]
    exact cmpP_first e.ent f.ent
  rw [hR]
  clear hR
  obtain ⟨ek, et, es, ⟨r1, r2, r3⟩, em⟩ := e
  obtain ⟨fk, ft, fs, ⟨q1, q2, q3⟩, fm⟩ := f
  unfold EM.val hdV
  dsimp only at HF ⊢
  by_cases hk : ek = fk
  · subst hk
    have h0 : Lib.compareBytes (bl ek) (bl ek) = 0 := by rw [cmpB_is]; simp
    rw [h0] at HF
    by_cases ht : ordI et ft = 0
    · have HR : Hid (ordI es fs = R) := by
        show _ = _
        rw [← HF.out, ht]
        unfold firstNZ
        by_cases h3 : ordI es fs = 0 <;> simp [firstNZ, h3]
      clear HF h0
      have KO : Hid (∀ w1, Calls Try.prog 76 #[.int .i64 et, .int .i64 ft] w1 fun e w' => e = .returned (.int .i64 0) ∧ w' = w1) := fun w1 => by have := order_any et ft w1; rwa [ht] at this
      go_enter Try.func55, Try.ntmps55
      go_wp2_with (go_at_call 76; first | (refine (KO.out _).mono ?_; rintro e w' ⟨rfl, rfl⟩) | (refine (order_any es fs _).mono ?_; rintro e w' ⟨rfl, rfl⟩))
      go_ret
      refine ⟨ret_int HR.out, ?_⟩
      repeat (first | exact Below.refl _ _ | apply Below.drew | (refine Below.alloc ?_ (by simp <;> omega) _))
    · have HR : Hid (ordI et ft = R) := by
        show _ = _
        rw [← HF.out]
        simp [firstNZ, ht]
      clear HF h0
      have hne : (ordI et ft != 0) = true := by simpa using ht
      go_enter Try.func55, Try.ntmps55
      go_wp2_with (go_at_call 76; refine (order_any et ft _).mono ?_; rintro e w' ⟨rfl, rfl⟩)
      go_ret
      refine ⟨ret_int HR.out, ?_⟩
      repeat (first | exact Below.refl _ _ | apply Below.drew | (refine Below.alloc ?_ (by simp <;> omega) _))
  · have t1' := keys_ne hk
    have t1 : (ek.toList == fk.toList) = false := by simpa using t1'
    clear t1'
    by_cases hl : bl ek < bl fk
    · have HR : Hid ((-1 : Int) = R) := by
        show _ = _
        rw [← HF.out, cmpB_is, if_pos hl]
        rfl
      clear HF
      have hb : Op.bytesLess ek.toList fk.toList = true := by rw [Lib.toList_data, Lib.toList_data, less_lt]; exact decide_eq_true hl
      go_enter Try.func55, Try.ntmps55
      go_wp2
      go_ret
      refine ⟨ret_int HR.out, ?_⟩
      repeat (first | exact Below.refl _ _ | apply Below.drew | (refine Below.alloc ?_ (by simp <;> omega) _))
    · have HR : Hid ((1 : Int) = R) := by
        show _ = _
        rw [← HF.out, cmpB_is, if_neg hl, if_neg (fun e => hk (bl_inj e))]
        rfl
      clear HF
      have hb : Op.bytesLess ek.toList fk.toList = false := by rw [Lib.toList_data, Lib.toList_data, less_lt]; exact decide_eq_false hl
      go_enter Try.func55, Try.ntmps55
      go_wp2
      go_ret
      refine ⟨ret_int HR.out, ?_⟩
      repeat (first | exact Below.refl _ _ | apply Below.drew | (refine Below.alloc ?_ (by simp <;> omega) _))
end Go.Proofs.Ytnfknkihiapgiaa.bf
