/- What holds of rows that have keys, in memory too. -/
import Derived.Test.YtibjihdeknndoaaValRead2
namespace Go.Proofs.Ytibjihdeknndoaa.vl
open Go.ChangeShapes Go.WideShapes Go.ChangeAt Go.RowKit
set_option linter.unusedVariables false
set_option linter.unusedSimpArgs false

theorem errR_ok {r : List Cel} (h : ∀ c ∈ r, c.ok ∧ c.wf) : errR r = 0 := by
  induction r with
  | nil => rfl
  | cons c r ih =>
    have hc : chk c.k c.n c.s = 0 := (h c (List.mem_cons_self ..)).1
    rw [errR, if_pos hc]
    exact ih (fun x hx => h x (List.mem_cons_of_mem _ hx))
theorem keyErr_ok {r : List Cel} (h : rowOk r) : keyErr r = 0 := by
  unfold keyErr
  have := h.1
  rw [if_neg (by omega)]
  exact errR_ok h.2
theorem keyS_ok {r : List Cel} (h : rowOk r) : (keyS r).data.toList = encR r := by
  unfold keyS; rw [if_pos (keyErr_ok h)]
theorem wfRow_ok {r : List Cel} (h : rowOk r) : wfRow r := fun c hc => (h.2 c hc).2
theorem keyS_len {r : List Cel} (h : rowOk r) : (keyS r).size ≤ 1048 := by
  rw [← list_len, keyS_ok h]
  have h1 := encR_len r (fun c hc => (h.2 c hc).1)
  have := h.1
  omega
theorem key_ok (a : Option Addr) (cap : Nat) (r : List Cel) (w : World) (hr : rowAt w a r) (h : rowOk r) :
    Calls Try.prog 41 #[.slice a r.length cap] w fun e w' => e = .returned (.tuple #[.string (keyS r), .int .i64 0]) ∧ Below w.heap.size w w' := by
  refine (key_any a cap r w hr (wfRow_ok h) (by have := h.1; omega)).mono fun e w' ⟨he, hb⟩ => ⟨?_, hb⟩
  rw [he, keyErr_ok h]

theorem rowAt_below {w w' : World} {a : Option Addr} {r : List Cel} (h : rowAt w a r) (hb : Below w.heap.size w w') : rowAt w' a r := by
  intro i hi
  obtain ⟨b, o, e, x1, x2, x3⟩ := h i hi
  exact ⟨b, o, e, cell_later hb x1, cell_later hb x2, cell_later hb x3⟩
theorem rowAt_take {w : World} {a : Option Addr} {r : List Cel} (h : rowAt w a r) (k : Nat) : rowAt w a (r.take k) := by
  intro i hi
  rw [List.length_take] at hi
  obtain ⟨b, o, e, x1, x2, x3⟩ := h i (by omega)
  have e2 : (r.take k).getD i default = r.getD i default := by
    simp only [List.getD_eq_getElem?_getD, List.getElem?_take]
    rw [if_pos (by omega)]
  rw [e2]
  exact ⟨b, o, e, x1, x2, x3⟩


end Go.Proofs.Ytibjihdeknndoaa.vl
