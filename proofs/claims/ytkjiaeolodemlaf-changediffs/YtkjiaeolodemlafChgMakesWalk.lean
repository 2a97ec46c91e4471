/- ChangeMakes answers true. -/
import Derived.Test.YtkjiaeolodemlafChgPartA
namespace Go.Proofs.Ytkjiaeolodemlaf.ch
open Go.ChangeShapes Go.WideShapes Go.ChangeAt Go.RowKit Go.Maps Go.WideMaps Go.Sort
open vl
set_option linter.unusedVariables false
set_option linter.unusedSimpArgs false

theorem viewErr_vals (v : List Cnt) (h : viewErr v ≠ 0) : viewErr v = 1 ∨ viewErr v = 2 := by
  unfold viewErr at h ⊢
  split
  · exact .inr rfl
  · split
    · rename_i h1 h2
      rw [if_neg h1, if_pos h2] at h
      exact absurd rfl h
    · exact .inl rfl
theorem diff_split {a b : List Cnt} {e : Ending} {w' : World} (h : diffRes a b e w') : (∃ x, (x = 1 ∨ x = 2) ∧ e = .returned (.tuple #[.slice none 0 0, .int .i64 x])) ∨
    (viewErr a = 0 ∧ viewErr b = 0 ∧ viewOk a ∧ viewOk b ∧ ∃ out : List Cnt, (∀ c ∈ out, rowOk c.r) ∧ rising (kvOf out) ∧ (∀ k, getK (kvOf out) k = getK (kvOf b) k - getK (kvOf a) k) ∧ (madeL out).length ≤ 4096 ∧ ∃ ad cap, e = .returned (.tuple #[.slice ad (madeL out).length cap, .int .i64 0]) ∧ chgsAt w' ad (madeL out)) := by
  rcases h with ⟨h1, h2⟩ | ⟨_, h1, h2⟩ | ⟨h1, h2, h3, h4, out, h5, h6, h7, ⟨_, h8⟩ | ⟨h8, h9⟩⟩
  · exact .inl ⟨_, viewErr_vals _ h1, h2⟩
  · exact .inl ⟨_, viewErr_vals _ h1, h2⟩
  · exact .inl ⟨2, .inr rfl, h8⟩
  · exact .inr ⟨h1, h2, h3, h4, out, h5, h6, h7, h8, h9⟩

set_option maxRecDepth 10000 in
set_option maxHeartbeats 8000000 in
theorem makes_walk (a : Option Addr) (ca : Nat) (va : List Cnt) (b : Option Addr) (cb : Nat) (vb : List Cnt) (w : World) (hva : viewAt w a va) (hvb : viewAt w b vb) (wa : wfView va) (wb : wfView vb) (la : va.length ≤ 9223372036854775807) (lb : vb.length ≤ 9223372036854775807) :
    Calls Try.prog 5 #[.slice a va.length ca, .slice b vb.length cb] w fun e w' => e = .returned (.bool true) ∧ Below w.heap.size w w' := by
  have K1 := diff_any a b ca cb va vb w hva hvb wa wb la lb
  have HVA : Hid (viewAt w a va) := hva
  have HVB : Hid (viewAt w b vb) := hvb
  clear hva hvb
  obtain ⟨m, hm⟩ : ∃ x, va.length = x := ⟨_, rfl⟩
  have HM : Hid (va.length = m) := hm
  obtain ⟨n, hn⟩ : ∃ x, vb.length = x := ⟨_, rfl⟩
  have HN : Hid (vb.length = n) := hn
  rw [hm, hn] at K1
  rw [hm] at la
  rw [hn] at lb
  rw [hm, hn]
  clear hm hn
  go_enter Try.func5, Try.ntmps5
  go_wp2_with fail
  refine K1.mono ?_
  rintro e w1 ⟨hres, hb1⟩
  rcases diff_split hres with ⟨x, hx, rfl⟩ | ⟨hea, heb, hoa, hob, out, hok, hri, hget, hml, ad, cap, rfl, hch⟩
  · rcases hx with rfl | rfl
    · go_wp2_with fail
      refine (cbegun_any _).mono ?_
      rintro e w2 ⟨rfl, hb2⟩
      go_wp2
      go_ret
      exact ⟨rfl, hb1.trans (hb2.mono hb1.size)⟩
    · go_wp2_with fail
      refine (cbegun_any _).mono ?_
      rintro e w2 ⟨rfl, hb2⟩
      go_wp2
      go_ret
      exact ⟨rfl, hb1.trans (hb2.mono hb1.size)⟩
  · have HEA : Hid (viewErr va = 0) := hea
    have HOA : Hid (viewOk va) := hoa
    have HOB : Hid (viewOk vb) := hob
    have HMF : Hid (formOk (madeL out) ∧ wfChgs (madeL out)) := made_form hok hml
    have HPL : Hid ((∀ i, i < (madeL out).length → errK (kvOf va) (madeL out) i = 0) ∧ atK (kvOf va) (madeL out) (madeL out).length = kvOf vb) := made_play (view_good wa hoa) (view_good wb hob) hri hok hml (fun k => by rw [hget]; omega)
    obtain ⟨ml, hml2⟩ : ∃ x, (madeL out).length = x := ⟨_, rfl⟩
    have HML : Hid ((madeL out).length = ml) := hml2
    have KA : Hid (Calls Try.prog 17 #[.slice a m ca, .slice ad ml cap] w1 fun e w' => foldRes va (madeL out) e w' ∧ Below w1.heap.size w1 w') := by
      have h := fold_any a ad ca cap va (madeL out) w1 (viewAt_below HVA.out hb1) wa (by rw [HM.out]; exact la) hch HMF.out.2 (by omega)
      rw [HM.out, hml2] at h; exact h
    rw [hml2]
    clear hea hoa hob hok hri hget hml hch hml2 hres
    go_wp2_with fail
    refine KA.out.mono ?_
    rintro e w2 ⟨hres, hb2⟩
    obtain ⟨out3, hk3, ho3, hw3, ad3, cap3, rfl, hv3⟩ := fold_yes hres HEA.out (ok_form HMF.out.1) HPL.out.1
    have HE : Hid (out3 = vb) := kvOf_inj (view_rows hw3 ho3) (view_rows wb HOB.out) (by rw [hk3, HPL.out.2])
    have HX : Hid (viewAt w2 ad3 vb) := by show viewAt w2 ad3 vb; rw [← HE.out]; exact hv3
    have h2 := hb1.trans (hb2.mono hb1.size)
    rw [HE.out, HN.out]
    clear hres hk3 ho3 hw3 hv3
    go_wp2_with fail
    refine (cbegun_any _).mono ?_
    rintro e w3 ⟨rfl, hb3⟩
    have h3 := h2.trans (hb3.mono h2.size)
    have KS : Hid (Calls Try.prog 18 #[.slice ad3 n cap3, .slice b n cb] w3 fun e w' => e = .returned (.bool true) ∧ Below w3.heap.size w3 w') := by
      have h := sameViews_any ad3 b cap3 cb vb vb w3 (viewAt_below HX.out hb3) (viewAt_below HVB.out h3) wb wb (by rw [HN.out]; exact lb) (by rw [HN.out]; exact lb)
      rw [HN.out, decide_eq_true rfl] at h; exact h
    go_wp2_with fail
    refine KS.out.mono ?_
    rintro e w4 ⟨rfl, hb4⟩
    go_wp2
    go_ret
    exact ⟨rfl, h3.trans (hb4.mono h3.size)⟩
end Go.Proofs.Ytkjiaeolodemlaf.ch
