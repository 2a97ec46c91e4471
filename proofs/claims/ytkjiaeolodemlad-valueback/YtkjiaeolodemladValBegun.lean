/- valueBegun answers true. -/
import Derived.Test.YtkjiaeolodemladValRead2
namespace Go.Proofs.Ytkjiaeolodemlad.vl
open Go.ChangeShapes Go.WideShapes Go.ChangeAt Go.RowKit
set_option linter.unusedVariables false
set_option linter.unusedSimpArgs false

def R4 : List Cel := [⟨2, -1, ⟨#[]⟩⟩, ⟨3, 0, ⟨#[97, 0]⟩⟩, ⟨1, 1, ⟨#[]⟩⟩, ⟨0, 0, ⟨#[]⟩⟩]
theorem R4_ok : rowOk R4 := by
  refine ⟨by decide, ?_⟩
  intro c hc
  simp only [R4, List.mem_cons, List.not_mem_nil, or_false] at hc
  rcases hc with rfl | rfl | rfl | rfl
  · exact ⟨int_ok _, wf0 _ _ (by decide) (by decide)⟩
  · exact ⟨chk_ok _ _ _ (by decide), wf3 (by decide)⟩
  · exact ⟨chk_ok _ _ _ (by decide), wf0 _ _ (by decide) (by decide)⟩
  · exact ⟨chk_ok _ _ _ (by decide), wf0 _ _ (by decide) (by decide)⟩
theorem errR_ok {r : List Cel} (h : ∀ c ∈ r, c.ok ∧ c.wf) : errR r = 0 := by
  induction r with
  | nil => rfl
  | cons c r ih =>
    have hc : chk c.k c.n c.s = 0 := (h c (List.mem_cons_self ..)).1
    rw [errR, if_pos hc]
    exact ih (fun x hx => h x (List.mem_cons_of_mem _ hx))
theorem keyErr_ok {r : List Cel} (h : rowOk r) : keyErr r = 0 := by
  unfold keyErr
  have := h.1
  rw [if_neg (by omega)]
  exact errR_ok h.2
theorem keyS_ok {r : List Cel} (h : rowOk r) : (keyS r).data.toList = encR r := by
  unfold keyS; rw [if_pos (keyErr_ok h)]
theorem wfRow_ok {r : List Cel} (h : rowOk r) : wfRow r := fun c hc => (h.2 c hc).2
theorem keyS_len {r : List Cel} (h : rowOk r) : (keyS r).size ≤ 1048 := by
  rw [← list_len, keyS_ok h]
  have h1 := encR_len r (fun c hc => (h.2 c hc).1)
  have := h.1
  omega
theorem key_ok (a : Option Addr) (cap : Nat) (r : List Cel) (w : World) (hr : rowAt w a r) (h : rowOk r) :
    Calls Try.prog 13 #[.slice a r.length cap] w fun e w' => e = .returned (.tuple #[.string (keyS r), .int .i64 0]) ∧ Below w.heap.size w w' := by
  refine (key_any a cap r w hr (wfRow_ok h) (by have := h.1; omega)).mono fun e w' ⟨he, hb⟩ => ⟨?_, hb⟩
  rw [he, keyErr_ok h]

theorem row4 (w : World) (b : Nat) (h0 : w.cell? ⟨b, 0, none⟩ = some (.int .i64 2)) (h1 : w.cell? ⟨b, 1, none⟩ = some (.int .i64 (-1))) (h2 : w.cell? ⟨b, 2, none⟩ = some (.string ⟨#[]⟩))
    (h3 : w.cell? ⟨b, 3, none⟩ = some (.int .i64 3)) (h4 : w.cell? ⟨b, 4, none⟩ = some (.int .i64 0)) (h5 : w.cell? ⟨b, 5, none⟩ = some (.string ⟨#[97, 0]⟩))
    (h6 : w.cell? ⟨b, 6, none⟩ = some (.int .i64 1)) (h7 : w.cell? ⟨b, 7, none⟩ = some (.int .i64 1)) (h8 : w.cell? ⟨b, 8, none⟩ = some (.string ⟨#[]⟩))
    (h9 : w.cell? ⟨b, 9, none⟩ = some (.int .i64 0)) (h10 : w.cell? ⟨b, 10, none⟩ = some (.int .i64 0)) (h11 : w.cell? ⟨b, 11, none⟩ = some (.string ⟨#[]⟩)) : rowAt w (some ⟨b, 0, none⟩) R4 := by
  intro i hi
  refine ⟨b, 0, rfl, ?_⟩
  match i, hi with
  | 0, _ => exact ⟨h0, h1, h2⟩
  | 1, _ => exact ⟨h3, h4, h5⟩
  | 2, _ => exact ⟨h6, h7, h8⟩
  | 3, _ => exact ⟨h9, h10, h11⟩
theorem rowAt_below {w w' : World} {a : Option Addr} {r : List Cel} (h : rowAt w a r) (hb : Below w.heap.size w w') : rowAt w' a r := by
  intro i hi
  obtain ⟨b, o, e, x1, x2, x3⟩ := h i hi
  exact ⟨b, o, e, cell_later hb x1, cell_later hb x2, cell_later hb x3⟩
theorem rowAt_take {w : World} {a : Option Addr} {r : List Cel} (h : rowAt w a r) (k : Nat) : rowAt w a (r.take k) := by
  intro i hi
  rw [List.length_take] at hi
  obtain ⟨b, o, e, x1, x2, x3⟩ := h i (by omega)
  have e2 : (r.take k).getD i default = r.getD i default := by
    simp only [List.getD_eq_getElem?_getD, List.getElem?_take]
    rw [if_pos (by omega)]
  rw [e2]
  exact ⟨b, o, e, x1, x2, x3⟩

theorem begun_cmp (w : World) : Calls Try.prog 11 #[.agg #[.int .i64 2, .int .i64 1, .string ⟨#[]⟩], .agg #[.int .i64 2, .int .i64 2, .string ⟨#[]⟩]] w fun e w' => e = .returned (.int .i64 (-1)) ∧ Below w.heap.size w w' :=
  (compare_any 2 1 ⟨#[]⟩ 2 2 ⟨#[]⟩ w).mono fun e w' ⟨he, hb⟩ => ⟨he.trans (ret_int (by decide)), hb⟩
theorem begun_rows (a : Option Addr) (c1 c2 : Nat) (w : World) (h : rowAt w a R4) : Calls Try.prog 16 #[.slice a 4 c1, .slice a 2 c2] w fun e w' => e = .returned (.int .i64 1) ∧ Below w.heap.size w w' :=
  (rows_any a a c1 c2 R4 (R4.take 2) w h (rowAt_take h 2) (by decide) (by decide)).mono fun e w' ⟨he, hb⟩ => ⟨he.trans (ret_int (by decide)), hb⟩
theorem begun_same (a1 a2 : Option Addr) (c1 c2 : Nat) (w : World) (h1 : rowAt w a1 R4) (h2 : rowAt w a2 R4) : Calls Try.prog 20 #[.slice a1 4 c1, .slice a2 4 c2] w fun e w' => e = .returned (.bool true) ∧ Below w.heap.size w w' :=
  (same_any a1 a2 c1 c2 R4 R4 w h1 h2 (by decide) (by decide)).mono fun e w' ⟨he, hb⟩ => ⟨he.trans (ret_bool (by simp)), hb⟩
theorem begun_key (a : Option Addr) (cap : Nat) (w : World) (hr : rowAt w a R4) : Calls Try.prog 13 #[.slice a 4 cap] w fun e w' => e = .returned (.tuple #[.string (keyS R4), .int .i64 0]) ∧ Below w.heap.size w w' :=
  key_ok a cap R4 w hr R4_ok
theorem begun_back (w : World) : Calls Try.prog 18 #[.string (keyS R4)] w fun e w' => (∃ ad cap, e = .returned (.tuple #[.slice ad 4 cap, .int .i64 0]) ∧ rowAt w' ad R4) ∧ Below w.heap.size w w' :=
  (back_yes (keyS R4) R4 w (Nat.le_trans (keyS_len R4_ok) (by unfold maxLen; omega)) R4_ok (keyS_ok R4_ok).symm).mono fun e w' ⟨⟨ad, cap, he, ho⟩, hb⟩ => ⟨⟨ad, cap, he, ownV_row ho⟩, hb⟩

theorem num_any (n : Int) (w : World) : Calls Try.prog 26 #[.int .i64 n] w fun e w' => e = .returned (.agg #[.int .i64 2, .int .i64 n, .string ⟨#[]⟩]) ∧ Below w.heap.size w w' := by
  go_enter Try.func26, Try.ntmps26
  go_wp2
  exact bodyPost_ret (v := .agg #[.int .i64 2, .int .i64 n, .string ⟨#[]⟩]) (by simp [results, Try.results26, go_sem]) rfl ⟨rfl, by repeat (first | exact Below.refl _ _ | apply Below.drew | (refine Below.setCell ?_ (by simp) _) | (refine Below.alloc ?_ (by simp <;> omega) _))⟩
theorem word_any (t : ByteArray) (w : World) : Calls Try.prog 27 #[.string t] w fun e w' => e = .returned (.agg #[.int .i64 3, .int .i64 0, .string t]) ∧ Below w.heap.size w w' := by
  go_enter Try.func27, Try.ntmps27
  go_wp2
  exact bodyPost_ret (v := .agg #[.int .i64 3, .int .i64 0, .string t]) (by simp [results, Try.results27, go_sem]) rfl ⟨rfl, by repeat (first | exact Below.refl _ _ | apply Below.drew | (refine Below.setCell ?_ (by simp) _) | (refine Below.alloc ?_ (by simp <;> omega) _))⟩

set_option maxHeartbeats 4000000 in
theorem begun_any (w : World) : Calls Try.prog 8 #[] w fun e w' => e = .returned (.bool true) ∧ Below w.heap.size w w' := by
  go_enter Try.func8, Try.ntmps8
  go_wp2_with fail
  refine (num_any _ _).mono ?_
  rintro e wa ⟨rfl, hba⟩
  go_wp2_with fail
  refine (word_any _ _).mono ?_
  rintro e wb ⟨rfl, hbb⟩
  have hab := hba.trans (hbb.mono hba.size)
  go_wp2_with fail
  have hrow : rowAt (wb.alloc (.cells #[.int .i64 2, .int .i64 (-1), .string ⟨#[]⟩, .int .i64 3, .int .i64 0, .string ⟨#[97, 0]⟩, .int .i64 1, .int .i64 1, .string ⟨#[]⟩, .int .i64 0, .int .i64 0, .string ⟨#[]⟩] 23)) (some ⟨wb.heap.size, 0, none⟩) R4 := by
    apply row4 <;> go_simp
  have HRW : Hid (rowAt (wb.alloc (.cells #[.int .i64 2, .int .i64 (-1), .string ⟨#[]⟩, .int .i64 3, .int .i64 0, .string ⟨#[97, 0]⟩, .int .i64 1, .int .i64 1, .string ⟨#[]⟩, .int .i64 0, .int .i64 0, .string ⟨#[]⟩] 23)) (some ⟨wb.heap.size, 0, none⟩) R4) := hrow
  clear hrow
  refine (begun_key (some ⟨wb.heap.size, 0, none⟩) 4 _ HRW.out).mono ?_
  rintro e wc ⟨rfl, hbc⟩
  have hbl := (hab.alloc hab.size _).trans (hbc.mono (by have := hab.size; simp; omega))
  have HR2 : Hid (rowAt wc (some ⟨wb.heap.size, 0, none⟩) R4) := rowAt_below HRW.out hbc
  clear HRW hbc
  go_wp2_with fail
  refine (begun_back _).mono ?_
  rintro e wd ⟨⟨ad, cap, rfl, hrd⟩, hbd⟩
  have HR3 : Hid (rowAt wd (some ⟨wb.heap.size, 0, none⟩) R4) := rowAt_below HR2.out hbd
  have HRD : Hid (rowAt wd ad R4) := hrd
  have hbl2 := hbl.trans (hbd.mono hbl.size)
  clear hrd HR2 hbl
  go_wp2_with (first
    | (go_at_call 20; refine (begun_same _ _ _ _ _ HRD.out HR3.out).mono ?_; rintro e ws ⟨rfl, hbs⟩; have HR4 : Hid (rowAt ws (some ⟨wb.heap.size, 0, none⟩) R4) := rowAt_below HR3.out hbs; have hbl3 := hbl2.trans (hbs.mono hbl2.size))
    | fail)
  refine (num_any _ _).mono ?_
  rintro e wn ⟨rfl, hbn⟩
  have hbl4 := hbl3.trans (hbn.mono hbl3.size)
  have HR5 : Hid (rowAt wn (some ⟨wb.heap.size, 0, none⟩) R4) := rowAt_below HR4.out hbn
  clear HR4 hbl3 hbn
  go_wp2_with fail
  refine (num_any _ _).mono ?_
  rintro e wm ⟨rfl, hbm⟩
  have hbl5 := hbl4.trans (hbm.mono hbl4.size)
  have HR6 : Hid (rowAt wm (some ⟨wb.heap.size, 0, none⟩) R4) := rowAt_below HR5.out hbm
  clear HR5 hbl4 hbm
  go_wp2_with fail
  refine (begun_cmp _).mono ?_
  rintro e wp ⟨rfl, hbp⟩
  have hbl6 := hbl5.trans (hbp.mono hbl5.size)
  have HR7 : Hid (rowAt wp (some ⟨wb.heap.size, 0, none⟩) R4) := rowAt_below HR6.out hbp
  clear HR6 hbl5 hbp
  go_wp2_with fail
  refine (begun_rows _ _ _ _ HR7.out).mono ?_
  rintro e wq ⟨rfl, hbq⟩
  have hbl7 := hbl6.trans (hbq.mono hbl6.size)
  go_wp2
  go_ret
  exact ⟨rfl, hbl7⟩
end Go.Proofs.Ytkjiaeolodemlad.vl
