/- What Put answers, in all cases, as one contract. -/
import Derived.Test.YtnfknkihiapgiaaFrE
import Derived.Test.YtnfknkihiapgiaaBufTellsWalk
namespace Go.Proofs.Ytnfknkihiapgiaa.bf
open Go.ChangeShapes Go.WideShapes Go.ChangeAt Go.RowKit
open vl
set_option linter.unusedVariables false
set_option linter.unusedSimpArgs false
/-- what is wrong, of a buffer and an entry -/
noncomputable def putAllE (b : Buf) (y : Ent) : Int := if errB b = 0 then putE b y else errB b
/-- what comes of a Put -/
structure gotB (b : Buf) (y : Ent) (g : Buf) : Prop where
  no : putAllE b y ≠ 0 → g = ⟨0, [], []⟩
  yes : putAllE b y = 0 → ∃ l', g = putB b l' ∧ l'.Perm (b.mem ++ [y]) ∧ Rise l'
theorem got_one {b : Buf} {y : Ent} {g g' : Buf} (h : gotB b y g) (h' : gotB b y g') : g = g' := by
  by_cases e : putAllE b y = 0
  · obtain ⟨l, rfl, hp, hr⟩ := h.yes e
    obtain ⟨l', rfl, hp', hr'⟩ := h'.yes e
    rw [rise_one (hp.trans hp'.symm) hr hr']
  · rw [h.no e, h'.no e]
theorem putE_zero {b : Buf} {y : Ent} (h : putE b y = 0) : fineB y = true ∧ hasB (entsB b) (plOf y) = false ∧ ¬ 4096 ≤ (entsB b).length := by
  unfold putE at h
  by_cases h1 : fineB y = false
  · rw [if_pos h1] at h; cases h
  · rw [if_neg h1] at h
    by_cases h2 : hasB (entsB b) (plOf y) = true
    · rw [if_pos h2] at h; cases h
    · rw [if_neg h2] at h
      by_cases h3 : 4096 ≤ (entsB b).length
      · rw [if_pos h3] at h; cases h
      · exact ⟨by simpa using h1, by simpa using h2, h3⟩
theorem got_rows {b : Buf} {y : Ent} {g : Buf} (h : gotB b y g) : (∀ l ∈ partsB g, l.length ≤ 9223372036854775807) ∧ ∀ z ∈ entsB g, z.row.length ≤ 9223372036854775807 := by
  by_cases e : putAllE b y = 0
  · have he : errB b = 0 := by
      unfold putAllE at e
      by_cases h0 : errB b = 0
      · exact h0
      · rw [if_neg h0] at e; exact e
    have hp0 : putE b y = 0 := by unfold putAllE at e; rwa [if_pos he] at e
    have ok := okB_of he
    obtain ⟨hf, _, _⟩ := putE_zero hp0
    have hyr : y.row.length ≤ 9223372036854775807 := by
      have hk := (fineB_iff.1 hf).2.1
      unfold keyErr at hk
      by_cases h8 : 8 < y.row.length
      · rw [if_pos h8] at hk; cases hk
      · omega
    obtain ⟨l', rfl, hp, hr⟩ := h.yes e
    have hents := put_ents (b := b) hp
    have hlen : (entsB (putB b l')).length ≤ 9223372036854775807 := by rw [hents.length_eq, List.length_cons]; have := ok.all; omega
    refine ⟨fun l hl => Nat.le_trans (part_le hl) hlen, fun z hz => ?_⟩
    rcases List.mem_cons.1 (hents.mem_iff.1 hz) with rfl | hz
    · exact hyr
    · have := ok.small.2.2 z hz; omega
  · rw [h.no e]
    exact ⟨fun l hl => by simp [partsB] at hl; subst hl; simp, fun z hz => by simp [entsB, partsB] at hz⟩
theorem put_all (b : Buf) (x : BX) (e : EM) (y : Ent) (w : World) (h : bufAt w b x) (hw : ∀ y ∈ entsB b, wfE y ∧ wfP (plOf y)) (hs : (entsB b).length ≤ 4611686018427387904) (hr : ER w e y) (hy : wfE y) :
    Calls Try.prog 8 #[bufV b x, e.val] w fun r w' => (∃ g xg, r = .returned (.tuple #[bufV g xg, .int .i64 (putAllE b y)]) ∧ bufAt w' g xg ∧ gotB b y g) ∧ Below w.heap.size w w' := by
  have hem : ∀ (k : Int) (w' : World), putAllE b y = k → k ≠ 0 → (∃ g xg, Ending.returned (.tuple #[emptyV, .int .i64 k]) = .returned (.tuple #[bufV g xg, .int .i64 (putAllE b y)]) ∧ bufAt w' g xg ∧ gotB b y g) := fun k w' hk h0 =>
    ⟨⟨0, [], []⟩, ⟨none, 0, ((none, 0, 0), []), []⟩, by rw [hk]; rfl, empty_at w', ⟨fun _ => rfl, fun e => absurd (hk.symm.trans e) h0⟩⟩
  by_cases he : errB b = 0
  · have hE : putAllE b y = putE b y := by unfold putAllE; rw [if_pos he]
    cases hf : fineB y with
    | false => exact (put_form b x e y w h hw hs he hr hy hf).mono (fun r w' ⟨h1, h2⟩ => ⟨by rw [h1]; exact hem 1 w' (by rw [hE]; unfold putE; rw [if_pos hf]) (by decide), h2⟩)
    | true =>
      have hf' : ¬ fineB y = false := by rw [hf]; simp
      cases hh : hasB (entsB b) (plOf y) with
      | true => exact (put_twice b x e y w h hw hs he hr hy hf hh).mono (fun r w' ⟨h1, h2⟩ => ⟨by rw [h1]; exact hem 10 w' (by rw [hE]; unfold putE; rw [if_neg hf', if_pos hh]) (by decide), h2⟩)
      | false =>
        have hh' : ¬ hasB (entsB b) (plOf y) = true := by rw [hh]; simp
        have ha := (okB_of he).all
        by_cases hm : (entsB b).length = 4096
        · exact (put_many b x e y w h hw hs he hr hy hf hh hm).mono (fun r w' ⟨h1, h2⟩ => ⟨by rw [h1]; exact hem 2 w' (by rw [hE]; unfold putE; rw [if_neg hf', if_neg hh', if_pos (by omega)]) (by decide), h2⟩)
        · have h0 : putAllE b y = 0 := by rw [hE]; unfold putE; rw [if_neg hf', if_neg hh', if_neg (by omega)]
          exact (put_ok b x e y w h hw hs he hr hy hf hh hm).mono (fun r w' ⟨⟨x', l', h1, h2, h3, h4⟩, h5⟩ => ⟨⟨_, x', by rw [h1, h0], h4.at, ⟨fun e => absurd h0 e, fun _ => ⟨l', rfl, h2, rise_of h3 (by
            have hn : ((b.mem ++ [y]).map plOf).Nodup := once_snoc.2 ⟨(List.Sublist.map plOf (by rw [ents_eq]; exact List.sublist_append_left ..)).nodup (okB_of he).once, by
              rw [ents_eq, has_app] at hh
              exact (Bool.or_eq_false_iff.1 hh).1⟩
            exact (perm_once h2).2 hn)⟩⟩⟩, h5⟩)
  · have hE : putAllE b y = errB b := by unfold putAllE; rw [if_neg he]
    exact (put_bad b x e w h hw hs he).mono (fun r w' ⟨h1, h2⟩ => ⟨by rw [h1]; exact hem (errB b) w' hE he, h2⟩)
end Go.Proofs.Ytnfknkihiapgiaa.bf
