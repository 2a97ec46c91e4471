/- Entries of one's own, sorted: what becomes of them. -/
import Derived.Test.YtnfknkihiapgiaaBufSort1
import Derived.Shelf.GgSortFunc.InsertionK
namespace Go.Proofs.Ytnfknkihiapgiaa.bf
open Go.ChangeShapes Go.WideShapes Go.ChangeAt Go.RowKit Go.Sort Go.Shelf
open vl
set_option linter.unusedVariables false
set_option linter.unusedSimpArgs false
/-- an entry's cells -/
def encE (e : EM) : List Value := [.string e.key, .int .i64 e.time, .int .i64 e.seq, hdV e.row, .bool e.met]
theorem encE_len (e : EM) : (encE e).length = 5 := rfl
theorem encE_one (e : EM) : ∀ v ∈ encE e, v.oneCell' = true := by
  intro v hv
  unfold encE hdV at hv
  simp at hv
  rcases hv with rfl | rfl | rfl | rfl | rfl <;> rfl
theorem entCells_get (l : List EM) (t : Nat) (h : t < l.length * 5) : (entCells l)[t]? = some ((encE (l.getD (t / 5) default))[t % 5]!) := by
  obtain ⟨h0, h1, h2, h3, h4⟩ := entCells_at l (t / 5) (by omega)
  have hm : t % 5 = 0 ∨ t % 5 = 1 ∨ t % 5 = 2 ∨ t % 5 = 3 ∨ t % 5 = 4 := by omega
  rcases hm with e | e | e | e | e
  · have ht : t = t / 5 * 5 := by omega
    rw [e]; rw [← ht] at h0; exact h0
  · have ht : t = t / 5 * 5 + 1 := by omega
    rw [e]; rw [← ht] at h1; exact h1
  · have ht : t = t / 5 * 5 + 2 := by omega
    rw [e]; rw [← ht] at h2; exact h2
  · have ht : t = t / 5 * 5 + 3 := by omega
    rw [e]; rw [← ht] at h3; exact h3
  · have ht : t = t / 5 * 5 + 4 := by omega
    rw [e]; rw [← ht] at h4; exact h4
theorem get_toArray (l : List EM) (i : Nat) (h : i < l.length) : l.toArray[i]! = l.getD i default := by
  rw [getElem!_pos l.toArray i (by simpa using h), List.getD_eq_getElem?_getD, List.getElem?_eq_getElem h]; rfl
theorem flat_get (l : List EM) (t : Nat) (h : t < l.length * 5) : (entCells l)[t]? = some ((flatK encE 5 l.toArray)[t]!) := by
  rw [get_flatK _ _ _ _ (by simpa using h), get_toArray l (t / 5) (by omega)]
  exact entCells_get l t h
theorem holds_own {w : World} {base g cap : Nat} {es : List EM} (h : w.ownsRow base 28 5 (.slice (some ⟨g, 0, none⟩) es.length cap) es.length (entCells es)) : HoldsK encE 5 w g 0 es.toArray := by
  intro j hj
  rw [size_flatK] at hj
  have hj' : j < es.length * 5 := by simpa using hj
  constructor
  · have := World.ownsRow.cells h (g := g) rfl j _ (flat_get es j hj')
    rw [add_at] at this
    exact this
  · rcases h.2 with ⟨hv, _⟩ | ⟨g', cap', cur, hv, h1, hg, _⟩
    · cases hv
    · cases hv
      simp [World.frozen?, hg]
theorem sw_heap {w : World} {g n : Nat} {d : Array EM} {os : Array Obj} {b : Nat} (hb : b < w.heap.size) (hne : b ≠ g) : (sortWorldK encE 5 w g 0 n d os).heap[b]? = w.heap[b]? := by
  show ((w.heap.modify g _) ++ os)[b]? = _
  rw [Array.getElem?_append_left (by rw [Array.size_modify]; exact hb), Array.getElem?_modify, if_neg (fun e => hne e.symm)]
theorem sw_size {w : World} {g n : Nat} {d : Array EM} {os : Array Obj} : w.heap.size ≤ (sortWorldK encE 5 w g 0 n d os).heap.size := by
  show _ ≤ ((w.heap.modify g _) ++ os).size
  rw [Array.size_append, Array.size_modify]; omega
theorem sw_below {w : World} {base g n : Nat} {d : Array EM} {os : Array Obj} (hg : base ≤ g) (hs : base ≤ w.heap.size) : Below base w (sortWorldK encE 5 w g 0 n d os) :=
  ⟨rfl, rfl, rfl, sw_size, fun k hk => sw_heap (by omega) (by omega)⟩
theorem sw_own {w : World} {base g cap n : Nat} {es : List EM} {d : List EM} {os : Array Obj} (h : w.ownsRow base 28 5 (.slice (some ⟨g, 0, none⟩) es.length cap) es.length (entCells es)) (hd : d.length = es.length) :
    (sortWorldK encE 5 w g 0 n d.toArray os).ownsRow base 28 5 (.slice (some ⟨g, 0, none⟩) es.length cap) es.length (entCells d) := by
  refine ⟨by rw [entCells_len, hd], ?_⟩
  rcases h.2 with ⟨hv, _⟩ | ⟨g', cap', cur, hv, h1, hg, h2, h3, h4, h5⟩
  · cases hv
  · cases hv
    have hlt : g < w.heap.size := (Array.getElem?_eq_some_iff.1 hg).1
    refine .inr ⟨g, cap, putCells id 0 (flatK encE 5 d.toArray) cur, rfl, h1, ?_, h2, h3, by simpa [putCells] using h4, ?_⟩
    · show ((w.heap.modify g _) ++ os)[g]? = _
      rw [Array.getElem?_append_left (by rw [Array.size_modify]; exact hlt), Array.getElem?_modify, if_pos rfl, hg]
      rfl
    · apply List.ext_getElem?
      intro t
      have hsz : es.length * 5 ≤ cur.size := by rw [h4]; exact Nat.mul_le_mul_right _ h2
      by_cases ht : t < es.length * 5
      · rw [List.getElem?_take_of_lt ht, flat_get d t (by rw [hd]; exact ht)]
        have htc : t < cur.size := by omega
        simp only [putCells, Array.getElem?_toList, Array.getElem?_mapIdx, Array.getElem?_eq_getElem htc, Option.map_some]
        rw [if_pos ⟨Nat.zero_le _, by rw [size_flatK]; simp; omega⟩]
        rfl
      · rw [List.getElem?_eq_none (by rw [List.length_take]; omega), List.getElem?_eq_none (by rw [entCells_len, hd]; omega)]
/-- .. with their rows -/
theorem OE_sorted {w : World} {base g cap n : Nat} {es : List EM} {l : List Ent} {d : List EM} {os : Array Obj} (h : OE w base (.slice (some ⟨g, 0, none⟩) es.length cap) es l) (hp : d.Perm es) :
    ∃ l', l'.Perm l ∧ OE (sortWorldK encE 5 w g 0 n d.toArray os) base (.slice (some ⟨g, 0, none⟩) es.length cap) d l' := by
  have hl := hp.length_eq
  have ez : es = (es.zip l).map Prod.fst := (List.map_fst_zip (by rw [h.len]; exact Nat.le_refl _)).symm
  have el : (es.zip l).map Prod.snd = l := List.map_snd_zip (by rw [h.len]; exact Nat.le_refl _)
  obtain ⟨zs, pz, dz⟩ := perm_lift Prod.fst hp (es.zip l) ez
  refine ⟨zs.map Prod.snd, by have := pz.map Prod.snd; rwa [el] at this, ⟨Nat.le_trans h.low sw_size, ?_, ?_, fun i hi => ?_⟩⟩
  · rw [hl]; exact sw_own h.own hl
  · rw [dz, List.length_map, List.length_map]
  · rw [List.length_map] at hi
    have hz : zs[i] ∈ es.zip l := pz.mem_iff.1 (List.getElem_mem hi)
    obtain ⟨j, hj, ej⟩ := List.getElem_of_mem hz
    have hjl : j < l.length := by rw [List.length_zip] at hj; omega
    have hje : j < es.length := by rw [h.len]; exact hjl
    rw [List.getElem_zip] at ej
    have e1 : d.getD i default = es.getD j default := by
      rw [dz, List.getD_eq_getElem?_getD, List.getElem?_map, List.getElem?_eq_getElem hi, ← ej, List.getD_eq_getElem?_getD, List.getElem?_eq_getElem hje]; rfl
    have e2 : (zs.map Prod.snd).getD i default = l.getD j default := by
      rw [List.getD_eq_getElem?_getD, List.getElem?_map, List.getElem?_eq_getElem hi, ← ej, List.getD_eq_getElem?_getD, List.getElem?_eq_getElem hjl]; rfl
    rw [e1, e2]
    obtain ⟨a1, a2, a3, a4, a5, a6⟩ := h.rows j hjl
    refine ⟨a1, a2, a3, a4, a5, own_same a6 (fun b hb => sw_heap (own_lt a6 hb).2 (fun e => ?_))⟩
    exact own_apart h.own a6 (by decide) (show (Value.slice (some ⟨g, 0, none⟩) es.length cap).ownBlock = some b by rw [e]; rfl) hb
end Go.Proofs.Ytnfknkihiapgiaa.bf
