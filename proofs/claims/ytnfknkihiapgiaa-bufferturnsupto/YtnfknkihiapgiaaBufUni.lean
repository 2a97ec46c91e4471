/- Put, Drop, Pack and All of a right buffer of one's own, a contract each. -/
import Derived.Test.YtnfknkihiapgiaaBufSet
namespace Go.Proofs.Ytnfknkihiapgiaa.bf
open Go.ChangeShapes Go.WideShapes Go.ChangeAt Go.RowKit
open vl
set_option linter.unusedVariables false
set_option linter.unusedSimpArgs false
/-- a right buffer of one's own -/
structure IsB (w : World) (base : Nat) (x : BX) (b : Buf) : Prop where
  ob : OB w base x b
  ok : okB b
  wf : ∀ y ∈ entsB b, wfE y ∧ wfP (plOf y)
theorem IsB.below {w w' : World} {base : Nat} {x : BX} {b : Buf} (h : IsB w base x b) (hb : Below w.heap.size w w') : IsB w' base x b := ⟨h.ob.below hb, h.ok, h.wf⟩
theorem IsB.mono {w : World} {base base' : Nat} {x : BX} {b : Buf} (h : IsB w base x b) (hb : base' ≤ base) : IsB w base' x b := ⟨OB_mono h.ob hb, h.ok, h.wf⟩
theorem IsB.set3 {w : World} {base N : Nat} {x : BX} {b : Buf} (h : IsB w base x b) (hN : tyAt w N 25) (u0 u1 u2 : Value) : IsB (((w.setCell ⟨N, 0, none⟩ u0).setCell ⟨N, 1, none⟩ u1).setCell ⟨N, 2, none⟩ u2) base x b := ⟨OB_set3 h.ob hN u0 u1 u2, h.ok, h.wf⟩
def x0 : BX := ⟨none, 0, ((none, 0, 0), []), []⟩
theorem IsB_new {w : World} {base : Nat} {k : Int} (hb : base ≤ w.heap.size) (h : betw k 1 64 = true) : IsB w base x0 ⟨k, [], []⟩ := ⟨OB_first (OE_nil hb), new_right h, fun y hy => by simp [entsB, partsB] at hy⟩
theorem IsB.small {w : World} {base : Nat} {x : BX} {b : Buf} (h : IsB w base x b) : (entsB b).length ≤ 4611686018427387904 := by have := h.ok.all; omega
/-- F2: what keeps an entry from being put into a right buffer -/
noncomputable def putErr (b : Buf) (y : Ent) : Int := if fineB y = false then 1 else if hasB (entsB b) (plOf y) = true then 10 else if (entsB b).length = 4096 then 2 else 0
theorem putErr_perm {a b : Buf} (h : (entsB a).Perm (entsB b)) (y : Ent) : putErr a y = putErr b y := by
  unfold putErr
  rw [has_perm h, h.length_eq]
theorem put_uni (b : Buf) (x : BX) (e : EM) (y : Ent) (base : Nat) (w : World) (h : IsB w base x b) (hr : ER w e y) (hy : wfE y) (hp : wfP (plOf y)) :
    Calls Try.prog 8 #[bufV b x, e.val] w fun r w' => (∃ b' x', r = .returned (.tuple #[bufV b' x', .int .i64 (putErr b y)]) ∧ (putErr b y = 0 → IsB w' w.heap.size x' b' ∧ b'.lim = b.lim ∧ (entsB b').Perm (y :: entsB b))) ∧ Below w.heap.size w w' := by
  have hat := h.ob.at
  have he := errB_zero h.ok
  have hs := h.small
  cases hf : fineB y with
  | false =>
    have e1 : putErr b y = 1 := by unfold putErr; rw [if_pos hf]
    rw [e1]
    refine (put_form b x e y w hat h.wf hs he hr hy hf).mono ?_
    rintro r w' ⟨rfl, hb⟩
    exact ⟨⟨⟨0, [], []⟩, x0, rfl, fun h => by cases h⟩, hb⟩
  | true =>
    cases hh : hasB (entsB b) (plOf y) with
    | true =>
      have e1 : putErr b y = 10 := by unfold putErr; rw [hf, if_neg (by decide), if_pos hh]
      rw [e1]
      refine (put_twice b x e y w hat h.wf hs he hr hy hf hh).mono ?_
      rintro r w' ⟨rfl, hb⟩
      exact ⟨⟨⟨0, [], []⟩, x0, rfl, fun h => by cases h⟩, hb⟩
    | false =>
      by_cases hm : (entsB b).length = 4096
      · have e1 : putErr b y = 2 := by unfold putErr; rw [hf, if_neg (by decide), hh, if_neg (by decide), if_pos hm]
        rw [e1]
        refine (put_many b x e y w hat h.wf hs he hr hy hf hh hm).mono ?_
        rintro r w' ⟨rfl, hb⟩
        exact ⟨⟨⟨0, [], []⟩, x0, rfl, fun h => by cases h⟩, hb⟩
      · have e1 : putErr b y = 0 := by unfold putErr; rw [hf, if_neg (by decide), hh, if_neg (by decide), if_neg hm]
        rw [e1]
        refine (put_ok b x e y w hat h.wf hs he hr hy hf hh hm).mono ?_
        rintro r w' ⟨⟨x', l', rfl, hpm, hby, hob⟩, hb⟩
        have hpe := put_ents (b := b) hpm
        refine ⟨⟨putB b l', x', rfl, fun _ => ⟨⟨hob, put_right h.ok (fineB_iff.1 hf) hh hm hpm hby, fun z hz => ?_⟩, ?_, hpe⟩⟩, hb⟩
        · rcases List.mem_cons.1 (hpe.mem_iff.1 hz) with rfl | hz
          · exact ⟨hy, hp⟩
          · exact h.wf z hz
        · unfold putB; split <;> rfl
theorem drop_uni (b : Buf) (x : BX) (to : Int) (base : Nat) (w : World) (h : IsB w base x b) :
    Calls Try.prog 22 #[bufV b x, .int .i64 to] w fun r w' => (∃ x', r = .returned (.tuple #[bufV (keptB (afterT to) b) x', .int .i64 0]) ∧ IsB w' w.heap.size x' (keptB (afterT to) b)) ∧ Below w.heap.size w w' := by
  refine (drop_ok b x to w h.ob.at h.wf h.small (errB_zero h.ok)).mono ?_
  rintro r w' ⟨⟨x', rfl, hob⟩, hb⟩
  exact ⟨⟨x', rfl, hob, kept_right _ h.ok, fun z hz => h.wf z (by rw [kept_ents] at hz; exact (List.mem_filter.1 hz).1)⟩, hb⟩
theorem pack_uni (b : Buf) (x : BX) (base : Nat) (w : World) (h : IsB w base x b) :
    Calls Try.prog 23 #[bufV b x] w fun r w' => (∃ b' x', r = .returned (.tuple #[bufV b' x', .int .i64 0]) ∧ IsB w' w.heap.size x' b' ∧ b'.lim = b.lim ∧ (entsB b').Perm (entsB b)) ∧ Below w.heap.size w w' := by
  refine (pack_ok b x w h.ob.at h.wf h.small (errB_zero h.ok)).mono ?_
  rintro r w' ⟨⟨x', l', rfl, hpm, hby, hob⟩, hb⟩
  exact ⟨⟨packB b.lim l', x', rfl, ⟨hob, pack_right h.ok hpm hby, fun z hz => h.wf z (by rw [pack_ents] at hz; exact hpm.mem_iff.1 hz)⟩, rfl, by rw [pack_ents]; exact hpm⟩, hb⟩
theorem all_uni (b : Buf) (x : BX) (base : Nat) (w : World) (h : IsB w base x b) :
    Calls Try.prog 21 #[bufV b x] w fun r w' => (∃ (hh : Hdr) (es' : List EM) (l' : List Ent), r = .returned (.tuple #[hdV hh, .int .i64 0]) ∧ l'.Perm (entsB b) ∧ Rise l' ∧ OE w' w.heap.size (hdV hh) es' l') ∧ Below w.heap.size w w' := by
  refine (all_ok b x w h.ob.at h.wf h.small (errB_zero h.ok)).mono ?_
  rintro r w' ⟨⟨hh, es', l', rfl, hpm, hby, hoe⟩, hb⟩
  exact ⟨⟨hh, es', l', rfl, hpm, rise_of hby ((perm_once hpm).2 h.ok.once), hoe⟩, hb⟩
end Go.Proofs.Ytnfknkihiapgiaa.bf
