/- The keys of counts, sorted: what maps.Keys and slices.Sorted hand back for a map that holds rising counts. -/
import Derived.Test.YtkjiaeolodemlafIter
import Derived.Test.YtkjiaeolodemlafChgMap
namespace Go.Proofs.Ytkjiaeolodemlaf.ch
open Go.ChangeShapes Go.WideShapes Go.ChangeAt Go.RowKit Go.Maps Go.Sort
set_option linter.unusedVariables false
set_option linter.unusedSimpArgs false

/-- the keys rise -/
def rising (kv : KV) : Prop := kv.Pairwise fun p q => bytesBefore p.1 q.1 = true
theorem before_lt : ∀ (a b : List UInt8), bytesBefore a b = decide (a < b)
  | [], [] => by simp [bytesBefore]
  | [], _ :: _ => by simp [bytesBefore]
  | _ :: _, [] => by simp [bytesBefore]
  | a :: x, b :: y => by
    rw [bytesBefore, before_lt x y]
    simp only [List.cons_lt_cons_iff]
    by_cases h1 : a < b <;> by_cases h2 : a = b <;> by_cases h3 : x < y <;> simp [h1, h2, h3]
theorem strKeys_toD (kv : KV) : strKeys (toD kv) = kv.map (·.1) := by
  show (kv.map ent).map (fun p => strOf p.1) = kv.map (·.1)
  rw [List.map_map]
  rfl
theorem sorted_keys {kv : KV} (hr : rising kv) {ss : List (List UInt8)} (h : ss.Perm (strKeys (toD kv))) : ss.mergeSort (fun x y => decide (x ≤ y)) = kv.map (·.1) := by
  have e := mergeSort_of_perm h
  rw [strKeys_toD] at e
  refine e.trans ?_
  refine List.mergeSort_of_pairwise ?_
  rw [List.pairwise_map]
  refine hr.imp ?_
  intro p q hpq
  rw [before_lt] at hpq
  exact decide_eq_true (List.le_of_lt (of_decide_eq_true hpq))

theorem keys_any (B : Nat) (w : World) : Calls Try.prog 55 #[.map (some B)] w fun e w' => e = .returned (.func (.func 64) #[] #[.pointer (some ⟨w.heap.size, 0, none⟩)]) ∧ w' = w.alloc (.cells #[.map (some B)] 40) :=
  callsIn_wide.1 (Try.maps_Keys_55 (some B) w)
theorem sorted_any (B nn : Nat) (kv : KV) (w : World) (hm : cmap w B nn kv) (hr : rising kv) (hlen : kv.length ≤ 1000000) :
    Calls Try.prog 54 #[.func (.func 64) #[] #[.pointer (some ⟨w.heap.size, 0, none⟩)]] (w.alloc (.cells #[.map (some B)] 40))
      fun e w' => (∃ v, e = .returned v ∧ w'.ownsRow (w.heap.size + 1) 9 1 v kv.length ((kv.map (·.1)).map encStr)) ∧ Below (w.heap.size + 1) (w.alloc (.cells #[.map (some B)] 40)) w' := by
  have h := Try.slices_Sorted_keys_54_55 B nn (toD kv) (plainElem (H := Unit) Try.prog 3) w hm (by rw [toD_size]; unfold maxLen; omega) (by rw [toD_size]; omega)
  refine (callsIn_wide.1 h).mono ?_
  rintro e w' ⟨v, ss, he, hp, hrow, hnil, hb⟩
  have hlen2 : ss.length = kv.length := by rw [hp.length_eq, strKeys_toD, List.length_map]
  rw [sorted_keys hr hp, hlen2] at hrow
  simp only [World.size_alloc] at hrow hb
  exact ⟨⟨v, he, hrow⟩, hb⟩
end Go.Proofs.Ytkjiaeolodemlaf.ch
