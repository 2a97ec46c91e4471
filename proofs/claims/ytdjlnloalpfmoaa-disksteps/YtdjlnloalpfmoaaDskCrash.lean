/- The document's CrashIn. -/
import Derived.Test.YtdjlnloalpfmoaaDskSame
namespace Go.Proofs.Ytdjlnloalpfmoaa.dk
open Go.ChangeShapes Go.WideShapes Go.ChangeAt Go.RowKit
set_option linter.unusedVariables false
set_option linter.unusedSimpArgs false
theorem mapS_ext {l : List Slt} {f g : Nat → Slt → Slt} (h : ∀ i, i < l.length → f i (l.getD i default) = g i (l.getD i default)) : mapS l f = mapS l g := by
  unfold mapS
  exact List.map_congr_left (fun i hi => h i (by simpa using hi))
theorem mapS_two (l : List Slt) (f g : Nat → Slt → Slt) : mapS (mapS l f) g = mapS l (fun i c => g i (f i c)) := by
  show (List.range (mapS l f).length).map _ = _
  rw [mapS_len]
  exact List.map_congr_left (fun i hi => by rw [mapS_at l f i (by simpa using hi)])
theorem mapS_id (l : List Slt) : mapS l (fun _ c => c) = l := by
  refine List.ext_getElem (mapS_len _ _) (fun i h1 h2 => ?_)
  simp [mapS, List.getD_eq_getElem?_getD, h2]
/-- what the power leaves of a slot -/
def crI (cs : List Int) (i : Nat) (c : Slt) : Slt := ⟨if c.has = true ∧ 0 ≤ cutAt cs i then c.wait.extract 0 (min (cutAt cs i) c.wait.size).toNat else c.safe, ⟨#[]⟩, false⟩
def crK (cs : List Int) (l : List Slt) (k : Nat) : List Slt := mapS l (fun i c => if i < k then crI cs i c else c)
theorem crK_len (cs : List Int) (l : List Slt) (k : Nat) : (crK cs l k).length = l.length := mapS_len _ _
theorem crK_zero (cs : List Int) (l : List Slt) : crK cs l 0 = l := by
  unfold crK
  rw [mapS_ext (g := fun _ c => c) (fun i _ => by rw [if_neg (Nat.not_lt_zero i)]), mapS_id]
theorem crK_all (cs : List Int) (l : List Slt) : crK cs l l.length = mapS l (crI cs) := mapS_ext (fun i hi => by rw [if_pos hi])
theorem crK_succ (cs : List Int) (l : List Slt) (k : Nat) : mapS (crK cs l k) (putF k (crI cs k (l.getD k default))) = crK cs l (k + 1) := by
  unfold crK
  rw [mapS_two]
  refine mapS_ext (fun i hi => ?_)
  unfold putF
  by_cases h : i = k
  · subst h; rw [if_pos rfl, if_pos (by omega)]
  · rw [if_neg (by omega)]
    by_cases h2 : i < k
    · rw [if_pos h2, if_pos (by omega)]
    · rw [if_neg h2, if_neg (by omega)]
def offB (B : Nat) (a : Option Addr) : Prop := ∀ x, a = some x → x.block ≠ B
theorem slotsAt_set {w : World} {a : Option Addr} {l : List Slt} {B : Nat} (h : slotsAt w a l) (ho : offB B a) (v : Value) : slotsAt (w.setCell ⟨B, 0, none⟩ v) a l := by
  intro i hi
  obtain ⟨b, o, e, x, y, z⟩ := h i hi
  have hne : B ≠ b := fun h => ho _ e h.symm
  refine ⟨b, o, e, ?_, ?_, ?_⟩
  · rw [World.cell?_setCell_far _ _ _ _ hne]; exact x
  · rw [World.cell?_setCell_far _ _ _ _ hne]; exact y
  · rw [World.cell?_setCell_far _ _ _ _ hne]; exact z
set_option maxRecDepth 10000 in
set_option maxHeartbeats 8000000 in
theorem crashIn_any (a ca : Option Addr) (cap cc : Nat) (l : List Slt) (cs : List Int) (w : World) (hl : l.length ≤ 8) (hcl : cs.length ≤ 9223372036854775807) (ha : slotsAt w a l) (hca : intsAt w ca cs) (hwt : ∀ i, i < l.length → (l.getD i default).wait.size ≤ maxLen) (h0 : 0 < l.length) :
    Calls Try.prog 19 #[diskV a l.length cap, .slice ca cs.length cc] w fun e w' => (∃ ad cp, e = .returned (diskV ad l.length cp) ∧ slotsAt w' ad (mapS l (crI cs))) ∧ Below w.heap.size w w' := by
  have KO : Hid (∀ (k : Nat) oa oc x w1, slotsAt w1 oa (crK cs l k) → Calls Try.prog 28 #[diskV oa l.length oc, .int .i64 k, Slt.val x] w1 fun e w' => (∃ ad cp, e = .returned (diskV ad l.length cp) ∧ ownS w' w1.heap.size (.slice ad l.length cp) (mapS (crK cs l k) (putF k x))) ∧ Below w1.heap.size w1 w') := fun k oa oc x w1 h => by
    have := ownDisk_any oa oc (crK cs l k) k x w1 (by rw [crK_len]; exact hl) h
    rw [crK_len] at this
    exact this
  obtain ⟨R, hR⟩ : ∃ z, mapS l (crI cs) = z := ⟨_, rfl⟩
  have HR : Hid (crK cs l l.length = R) := by show _ = _; rw [crK_all, hR]
  rw [hR]
  clear hR
  obtain ⟨n, hn⟩ : ∃ z, l.length = z := ⟨_, rfl⟩
  obtain ⟨m, hm⟩ : ∃ z, cs.length = z := ⟨_, rfl⟩
  have HN : Hid (l.length = n) := hn
  have HM : Hid (cs.length = m) := hm
  rw [hn] at KO hl HR h0 ⊢
  rw [hm] at hcl ⊢
  clear hn hm
  unfold diskV at KO ⊢
  have hb0 : Below w.heap.size w (((w.alloc (.cells #[.slice a n cap] 24)).alloc (.cells #[.slice none 0 0] 24)).alloc (.cells #[.slice a n cap] 24)) := by
    repeat (first | exact Below.refl _ _ | (refine Below.alloc ?_ (by simp <;> omega) _))
  have b0 : (((w.alloc (.cells #[.slice a n cap] 24)).alloc (.cells #[.slice none 0 0] 24)).alloc (.cells #[.slice a n cap] 24)).cell? ⟨w.heap.size, 0, none⟩ = some (.slice a n cap) := by go_simp
  have b1 : (((w.alloc (.cells #[.slice a n cap] 24)).alloc (.cells #[.slice none 0 0] 24)).alloc (.cells #[.slice a n cap] 24)).cell? ⟨w.heap.size + 1, 0, none⟩ = some (.slice none 0 0) := by go_simp
  have f1 : (((w.alloc (.cells #[.slice a n cap] 24)).alloc (.cells #[.slice none 0 0] 24)).alloc (.cells #[.slice a n cap] 24)).frozen? ⟨w.heap.size + 1, 0, none⟩ = false := by go_simp
  have b2 : (((w.alloc (.cells #[.slice a n cap] 24)).alloc (.cells #[.slice none 0 0] 24)).alloc (.cells #[.slice a n cap] 24)).cell? ⟨w.heap.size + 1 + 1, 0, none⟩ = some (.slice a n cap) := by go_simp
  have f2 : (((w.alloc (.cells #[.slice a n cap] 24)).alloc (.cells #[.slice none 0 0] 24)).alloc (.cells #[.slice a n cap] 24)).frozen? ⟨w.heap.size + 1 + 1, 0, none⟩ = false := by go_simp
  have hs0 : (((w.alloc (.cells #[.slice a n cap] 24)).alloc (.cells #[.slice none 0 0] 24)).alloc (.cells #[.slice a n cap] 24)).heap.size = w.heap.size + 1 + 1 + 1 := by simp
  have HOFF : Hid (∀ B, w.heap.size ≤ B → offB B a) := fun B hB x hx hb => by
    obtain ⟨b, o, e, y, _⟩ := ha 0 (by rw [HN.out]; exact h0)
    have h1 := World.block_lt_of_cell? _ _ y
    have h1' : b < w.heap.size := h1
    rw [hx] at e
    cases e
    simp at hb
    omega
  have HST : Hid (slotsAt (((w.alloc (.cells #[.slice a n cap] 24)).alloc (.cells #[.slice none 0 0] 24)).alloc (.cells #[.slice a n cap] 24)) a (crK cs l 0)) := by
    show slotsAt _ _ _
    rw [crK_zero]; exact slotsAt_below ha hb0
  go_enter Try.func19, Try.ntmps19
  go_wp2
  generalize ((w.alloc (.cells #[.slice a n cap] 24)).alloc (.cells #[.slice none 0 0] 24)).alloc (.cells #[.slice a n cap] 24) = W0 at *
  go_loopw [6] (fun i wr => ∃ k oa oc, k ≤ n ∧ i = .int .i64 (k : Nat) ∧ Below (w.heap.size + 1 + 1) W0 wr ∧ wr.cell? ⟨w.heap.size + 1 + 1, 0, none⟩ = some (.slice oa n oc) ∧ wr.frozen? ⟨w.heap.size + 1 + 1, 0, none⟩ = false ∧ w.heap.size + 1 + 1 + 1 ≤ wr.heap.size ∧ slotsAt wr oa (crK cs l k) ∧ offB (w.heap.size + 1 + 1) oa ∧ offB (w.heap.size + 1) oa) (fun i _ => n - (intOf i).toNat)
  case atStart => exact ⟨0, a, cap, Nat.zero_le _, rfl, Below.refl _ _, b2, f2, by omega, HST.out, HOFF.out _ (by omega), HOFF.out _ (by omega)⟩
  case round =>
    obtain ⟨k, oa, oc, hk, rfl, hnx, cv, cf, hlow, hsl, hob0, hob1⟩ := hrel
    have hnw : Below w.heap.size w wr := hb0.trans (hnx.mono (by omega))
    have c0 : wr.cell? ⟨w.heap.size, 0, none⟩ = some (.slice a n cap) := by rw [hnx.cell (p := ⟨w.heap.size, 0, none⟩) (by simp <;> omega)]; exact b0
    have c1 : wr.cell? ⟨w.heap.size + 1, 0, none⟩ = some (.slice none 0 0) := by rw [hnx.cell (p := ⟨w.heap.size + 1, 0, none⟩) (by simp <;> omega)]; exact b1
    have g1 : wr.frozen? ⟨w.heap.size + 1, 0, none⟩ = false := by rw [hnx.frozen (p := ⟨w.heap.size + 1, 0, none⟩) (by simp <;> omega)]; exact f1
    have l2 : w.heap.size + 1 + 1 < wr.heap.size := by omega
    have l0 : w.heap.size < wr.heap.size := by omega
    clear HST HOFF hob0
    have HOB : Hid (offB (w.heap.size + 1) oa) := hob1
    clear hob1
    by_cases hlt : k < n
    · obtain ⟨b, o, e, y1, y2, y3⟩ := ha k (by rw [HN.out]; exact hlt)
      subst e
      have q1 := cell_later hnw y1
      have q2 := cell_later hnw y2
      have q3 := cell_later hnw y3
      have lb : b < wr.heap.size := World.block_lt_of_cell? _ _ q1
      have hw2 := hwt k (by rw [HN.out]; exact hlt)
      have KX : Hid (∀ oa oc w1, slotsAt w1 oa (crK cs l k) → Calls Try.prog 28 #[.agg #[.slice oa n oc], .int .i64 k, Slt.val (crI cs k (l.getD k default))] w1 fun e w' => (∃ ad cp, e = .returned (.agg #[.slice ad n cp]) ∧ ownS w' w1.heap.size (.slice ad n cp) (crK cs l (k + 1))) ∧ Below w1.heap.size w1 w') := fun oa oc w1 h => by
        have := KO.out k oa oc (crI cs k (l.getD k default)) w1 h
        rw [crK_succ] at this
        exact this
      obtain ⟨⟨sa, wa, ba⟩, hz⟩ : ∃ z, l.getD k default = z := ⟨_, rfl⟩
      rw [hz] at q1 q2 q3 hw2 KX
      dsimp only at q1 q2 q3 hw2
      unfold maxLen at hw2
      have i1 : (0 : Int) ≤ (k : Int) := by omega
      have i2 : (k : Int) < (n : Int) := by omega
      unfold crI Slt.val at KX
      dsimp only at KX
      clear hz y1 y2 y3 ha KO hwt
      by_cases hm : k < m
      · obtain ⟨b', o', e', z1⟩ := hca k (by rw [HM.out]; exact hm)
        subst e'
        have r1 := cell_later hnw z1
        have hcut : cutAt cs k = cs.getD k 0 := by unfold cutAt; rw [if_pos (by rw [HM.out]; exact hm)]
        rw [hcut] at KX
        obtain ⟨C, hC⟩ : ∃ z, cs.getD k 0 = z := ⟨_, rfl⟩
        rw [hC] at KX r1
        have j2 : (k : Int) < (m : Int) := by omega
        clear hcut hC z1 hca
        cases ba with
        | false =>
          rw [if_neg (by simp)] at KX
          go_wp2_with (go_at_call 28; refine (KX.out oa oc _ (slotsAt_below hsl (by repeat (first | exact Below.refl _ _ | apply Below.drew | (refine Below.alloc ?_ (by simp <;> omega) _))))).mono ?_; rintro e w2 ⟨⟨ad, cp, rfl, hown⟩, hb2⟩; have hbx : Below wr.heap.size wr w2 := (by first | exact ((Below.refl _ _).alloc (Nat.le_refl _) _).trans (hb2.mono (by simp)) | exact (((Below.refl _ _).drew).alloc (Nat.le_refl _) _).trans (hb2.mono (by simp)) | exact (((Below.refl _ _).alloc (Nat.le_refl _) _).drew).trans (hb2.mono (by simp))); have e0 := cell_later hbx cv; have ef : w2.frozen? ⟨w.heap.size + 1 + 1, 0, none⟩ = false := (by rw [hbx.frozen (p := ⟨w.heap.size + 1 + 1, 0, none⟩) (by dsimp only; omega)]; exact cf); have hown' : ownS w2 wr.heap.size (.slice ad n cp) (crK cs l (k + 1)) := World.ownsRow.mono hown (by simp))
          have hO2 := ownsRow_setCell_below hown' (a := ⟨w.heap.size + 1 + 1, 0, none⟩) (by dsimp only; omega) (.slice ad n cp)
          have hst := (ownS_at hO2).1
          have hob : ∀ B, B < wr.heap.size → offB B ad := by
            intro B hB x hx hb
            have hh := World.ownsRow.lt hown' x.block (by obtain ⟨ad', cp', hv, hg⟩ := own_form hown'; injection hv with h1 h2 h3; subst h1; obtain ⟨g, hg2⟩ := hg (by rw [crK_len, HN.out]; omega); rw [hg2] at hx ⊢; cases hx; rfl)
            omega
          go_roundw
          case rel => exact ⟨k + 1, ad, cp, by omega, by go_num, (hnx.trans (hbx.mono (by omega))).setCell (by dsimp only; omega) _, World.cell?_setCell_same _ _ _ e0, by simpa using ef, by have := hbx.size; simp; omega, hst, hob _ l2, hob _ (by omega)⟩
          case measure => simp [intOf]; omega
        | true =>
          by_cases hC0 : 0 ≤ C
          · rw [if_pos ⟨rfl, hC0⟩] at KX
            go_wp2
            go_region
            all_goals
              go_wp2_with (go_at_call 28; refine (KX.out oa oc _ (slotsAt_below hsl (by repeat (first | exact Below.refl _ _ | apply Below.drew | (refine Below.alloc ?_ (by simp <;> omega) _))))).mono ?_; rintro e w2 ⟨⟨ad, cp, rfl, hown⟩, hb2⟩; have hbx : Below wr.heap.size wr w2 := (by first | exact ((Below.refl _ _).alloc (Nat.le_refl _) _).trans (hb2.mono (by simp)) | exact (((Below.refl _ _).drew).alloc (Nat.le_refl _) _).trans (hb2.mono (by simp)) | exact (((Below.refl _ _).alloc (Nat.le_refl _) _).drew).trans (hb2.mono (by simp))); have e0 := cell_later hbx cv; have ef : w2.frozen? ⟨w.heap.size + 1 + 1, 0, none⟩ = false := (by rw [hbx.frozen (p := ⟨w.heap.size + 1 + 1, 0, none⟩) (by dsimp only; omega)]; exact cf); have hown' : ownS w2 wr.heap.size (.slice ad n cp) (crK cs l (k + 1)) := World.ownsRow.mono hown (by simp))
              have hO2 := ownsRow_setCell_below hown' (a := ⟨w.heap.size + 1 + 1, 0, none⟩) (by dsimp only; omega) (.slice ad n cp)
              have hst := (ownS_at hO2).1
              have hob : ∀ B, B < wr.heap.size → offB B ad := by
                intro B hB x hx hb
                have hh := World.ownsRow.lt hown' x.block (by obtain ⟨ad', cp', hv, hg⟩ := own_form hown'; injection hv with h1 h2 h3; subst h1; obtain ⟨g, hg2⟩ := hg (by rw [crK_len, HN.out]; omega); rw [hg2] at hx ⊢; cases hx; rfl)
                omega
              go_roundw
              case rel => exact ⟨k + 1, ad, cp, by omega, by go_num, (hnx.trans (hbx.mono (by omega))).setCell (by dsimp only; omega) _, World.cell?_setCell_same _ _ _ e0, by simpa using ef, by have := hbx.size; simp; omega, hst, hob _ l2, hob _ (by omega)⟩
              case measure => simp [intOf]; omega
          · rw [if_neg (by simp [hC0])] at KX
            go_wp2_with (go_at_call 28; refine (KX.out oa oc _ (slotsAt_below hsl (by repeat (first | exact Below.refl _ _ | apply Below.drew | (refine Below.alloc ?_ (by simp <;> omega) _))))).mono ?_; rintro e w2 ⟨⟨ad, cp, rfl, hown⟩, hb2⟩; have hbx : Below wr.heap.size wr w2 := (by first | exact ((Below.refl _ _).alloc (Nat.le_refl _) _).trans (hb2.mono (by simp)) | exact (((Below.refl _ _).drew).alloc (Nat.le_refl _) _).trans (hb2.mono (by simp)) | exact (((Below.refl _ _).alloc (Nat.le_refl _) _).drew).trans (hb2.mono (by simp))); have e0 := cell_later hbx cv; have ef : w2.frozen? ⟨w.heap.size + 1 + 1, 0, none⟩ = false := (by rw [hbx.frozen (p := ⟨w.heap.size + 1 + 1, 0, none⟩) (by dsimp only; omega)]; exact cf); have hown' : ownS w2 wr.heap.size (.slice ad n cp) (crK cs l (k + 1)) := World.ownsRow.mono hown (by simp))
            have hO2 := ownsRow_setCell_below hown' (a := ⟨w.heap.size + 1 + 1, 0, none⟩) (by dsimp only; omega) (.slice ad n cp)
            have hst := (ownS_at hO2).1
            have hob : ∀ B, B < wr.heap.size → offB B ad := by
              intro B hB x hx hb
              have hh := World.ownsRow.lt hown' x.block (by obtain ⟨ad', cp', hv, hg⟩ := own_form hown'; injection hv with h1 h2 h3; subst h1; obtain ⟨g, hg2⟩ := hg (by rw [crK_len, HN.out]; omega); rw [hg2] at hx ⊢; cases hx; rfl)
              omega
            go_roundw
            case rel => exact ⟨k + 1, ad, cp, by omega, by go_num, (hnx.trans (hbx.mono (by omega))).setCell (by dsimp only; omega) _, World.cell?_setCell_same _ _ _ e0, by simpa using ef, by have := hbx.size; simp; omega, hst, hob _ l2, hob _ (by omega)⟩
            case measure => simp [intOf]; omega
      · have hcut : cutAt cs k = 0 := by unfold cutAt; rw [if_neg (by rw [HM.out]; exact hm)]
        rw [hcut] at KX
        have j2 : ¬ (k : Int) < (m : Int) := by omega
        clear hcut hca
        cases ba with
        | false =>
          rw [if_neg (by simp)] at KX
          go_wp2_with (go_at_call 28; refine (KX.out oa oc _ (slotsAt_below hsl (by repeat (first | exact Below.refl _ _ | apply Below.drew | (refine Below.alloc ?_ (by simp <;> omega) _))))).mono ?_; rintro e w2 ⟨⟨ad, cp, rfl, hown⟩, hb2⟩; have hbx : Below wr.heap.size wr w2 := (by first | exact ((Below.refl _ _).alloc (Nat.le_refl _) _).trans (hb2.mono (by simp)) | exact (((Below.refl _ _).drew).alloc (Nat.le_refl _) _).trans (hb2.mono (by simp)) | exact (((Below.refl _ _).alloc (Nat.le_refl _) _).drew).trans (hb2.mono (by simp))); have e0 := cell_later hbx cv; have ef : w2.frozen? ⟨w.heap.size + 1 + 1, 0, none⟩ = false := (by rw [hbx.frozen (p := ⟨w.heap.size + 1 + 1, 0, none⟩) (by dsimp only; omega)]; exact cf); have hown' : ownS w2 wr.heap.size (.slice ad n cp) (crK cs l (k + 1)) := World.ownsRow.mono hown (by simp))
          have hO2 := ownsRow_setCell_below hown' (a := ⟨w.heap.size + 1 + 1, 0, none⟩) (by dsimp only; omega) (.slice ad n cp)
          have hst := (ownS_at hO2).1
          have hob : ∀ B, B < wr.heap.size → offB B ad := by
            intro B hB x hx hb
            have hh := World.ownsRow.lt hown' x.block (by obtain ⟨ad', cp', hv, hg⟩ := own_form hown'; injection hv with h1 h2 h3; subst h1; obtain ⟨g, hg2⟩ := hg (by rw [crK_len, HN.out]; omega); rw [hg2] at hx ⊢; cases hx; rfl)
            omega
          go_roundw
          case rel => exact ⟨k + 1, ad, cp, by omega, by go_num, (hnx.trans (hbx.mono (by omega))).setCell (by dsimp only; omega) _, World.cell?_setCell_same _ _ _ e0, by simpa using ef, by have := hbx.size; simp; omega, hst, hob _ l2, hob _ (by omega)⟩
          case measure => simp [intOf]; omega
        | true =>
          rw [if_pos ⟨rfl, Int.le_refl _⟩] at KX
          go_wp2
          go_region
          all_goals
            go_wp2_with (go_at_call 28; refine (KX.out oa oc _ (slotsAt_below hsl (by repeat (first | exact Below.refl _ _ | apply Below.drew | (refine Below.alloc ?_ (by simp <;> omega) _))))).mono ?_; rintro e w2 ⟨⟨ad, cp, rfl, hown⟩, hb2⟩; have hbx : Below wr.heap.size wr w2 := (by first | exact ((Below.refl _ _).alloc (Nat.le_refl _) _).trans (hb2.mono (by simp)) | exact (((Below.refl _ _).drew).alloc (Nat.le_refl _) _).trans (hb2.mono (by simp)) | exact (((Below.refl _ _).alloc (Nat.le_refl _) _).drew).trans (hb2.mono (by simp))); have e0 := cell_later hbx cv; have ef : w2.frozen? ⟨w.heap.size + 1 + 1, 0, none⟩ = false := (by rw [hbx.frozen (p := ⟨w.heap.size + 1 + 1, 0, none⟩) (by dsimp only; omega)]; exact cf); have hown' : ownS w2 wr.heap.size (.slice ad n cp) (crK cs l (k + 1)) := World.ownsRow.mono hown (by simp))
            have hO2 := ownsRow_setCell_below hown' (a := ⟨w.heap.size + 1 + 1, 0, none⟩) (by dsimp only; omega) (.slice ad n cp)
            have hst := (ownS_at hO2).1
            have hob : ∀ B, B < wr.heap.size → offB B ad := by
              intro B hB x hx hb
              have hh := World.ownsRow.lt hown' x.block (by obtain ⟨ad', cp', hv, hg⟩ := own_form hown'; injection hv with h1 h2 h3; subst h1; obtain ⟨g, hg2⟩ := hg (by rw [crK_len, HN.out]; omega); rw [hg2] at hx ⊢; cases hx; rfl)
              omega
            go_roundw
            case rel => exact ⟨k + 1, ad, cp, by omega, by go_num, (hnx.trans (hbx.mono (by omega))).setCell (by dsimp only; omega) _, World.cell?_setCell_same _ _ _ e0, by simpa using ef, by have := hbx.size; simp; omega, hst, hob _ l2, hob _ (by omega)⟩
            case measure => simp [intOf]; omega
    · have hkn : k = n := by omega
      subst hkn
      go_wp2
      have y3 : (wr.setCell ⟨w.heap.size + 1, 0, none⟩ (.slice oa k oc)).cell? ⟨w.heap.size + 1, 0, none⟩ = some (.slice oa k oc) := World.cell?_setCell_same _ _ _ c1
      have hst := slotsAt_set hsl HOB.out (.slice oa k oc)
      rw [HR.out] at hst
      exact bodyPost_ret (v := .agg #[.slice oa k oc]) (by simp [results, Try.results19, go_sem, y3]) rfl ⟨⟨oa, oc, rfl, hst⟩, hnw.setCell (by dsimp only; omega) _⟩
end Go.Proofs.Ytdjlnloalpfmoaa.dk
