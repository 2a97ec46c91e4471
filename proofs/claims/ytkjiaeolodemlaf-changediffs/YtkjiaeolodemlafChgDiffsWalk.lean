/- ChangeDiffs answers true. -/
import Derived.Test.YtkjiaeolodemlafChgDiffOf
import Derived.Test.YtkjiaeolodemlafChgPartA
import Derived.Test.YtkjiaeolodemlafChgMakesWalk
namespace Go.Proofs.Ytkjiaeolodemlaf.ch
open Go.ChangeShapes Go.WideShapes Go.ChangeAt Go.RowKit Go.Maps Go.WideMaps Go.Sort
open vl
set_option linter.unusedVariables false
set_option linter.unusedSimpArgs false

/-- both answer the same: an error, or the same changes -/
theorem diffs_same {a b : List Cnt} {e e' : Ending} {w1 w2 : World} (h : diffRes a b e w1) (k : diffOfRes a b e' w2) :
    (∃ x, e = .returned (.tuple #[.slice none 0 0, .int .i64 x]) ∧ e' = .returned (.tuple #[.slice none 0 0, .int .i64 x])) ∨
    (∃ L : List Chg, wfChgs L ∧ L.length ≤ 4096 ∧ ∃ ad cap ad' cap', e = .returned (.tuple #[.slice ad L.length cap, .int .i64 0]) ∧ chgsAt w1 ad L ∧ e' = .returned (.tuple #[.slice ad' L.length cap', .int .i64 0]) ∧ chgsAt w2 ad' L) := by
  rcases h with ⟨h1, h2⟩ | ⟨h0, h1, h2⟩ | ⟨h1, h2, h3, h4, out, h5, h6, h7, h8⟩
  · rcases k with ⟨k1, k2⟩ | ⟨k0, _⟩ | ⟨k0, _⟩
    · exact .inl ⟨_, h2, k2⟩
    · exact absurd k0 h1
    · exact absurd k0 h1
  · rcases k with ⟨k1, _⟩ | ⟨_, k1, k2⟩ | ⟨_, k0, _⟩
    · exact absurd h0 k1
    · exact .inl ⟨_, h2, k2⟩
    · exact absurd k0 h1
  · rcases k with ⟨k1, _⟩ | ⟨_, k1, _⟩ | ⟨_, _, M, k5, k6, k7, k8⟩
    · exact absurd h1 k1
    · exact absurd h2 k1
    · have e1 : madeL M = madeL out := made_same k6 h6 k5 h5 (fun x => by rw [k7, h7])
      rw [e1] at k8
      rcases h8 with ⟨g1, g2⟩ | ⟨g1, ad, cap, g2, g3⟩
      · rcases k8 with ⟨l1, l2⟩ | ⟨l1, _⟩
        · exact .inl ⟨2, g2, l2⟩
        · omega
      · rcases k8 with ⟨l1, _⟩ | ⟨l1, ad', cap', l2, l3⟩
        · omega
        · exact .inr ⟨madeL out, (made_form h5 g1).2, g1, ad, cap, ad', cap', g2, g3, l2, l3⟩

set_option maxRecDepth 10000 in
set_option maxHeartbeats 8000000 in
theorem diffs_walk (a : Option Addr) (ca : Nat) (va : List Cnt) (b : Option Addr) (cb : Nat) (vb : List Cnt) (w : World) (hva : viewAt w a va) (hvb : viewAt w b vb) (wa : wfView va) (wb : wfView vb) (la : va.length ≤ 9223372036854775807) (lb : vb.length ≤ 9223372036854775807) :
    Calls Try.prog 3 #[.slice a va.length ca, .slice b vb.length cb] w fun e w' => e = .returned (.bool true) ∧ Below w.heap.size w w' := by
  have K1 := diff_any a b ca cb va vb w hva hvb wa wb la lb
  have K2 : Hid (∀ w1, Below w.heap.size w w1 → Calls Try.prog 9 #[.slice a va.length ca, .slice b vb.length cb] w1 fun e w' => diffOfRes va vb e w' ∧ Below w1.heap.size w1 w') := fun w1 hb => diffOf_any a b ca cb va vb w1 (viewAt_below hva hb) (viewAt_below hvb hb) wa wb la lb
  clear hva hvb
  obtain ⟨m, hm⟩ : ∃ x, va.length = x := ⟨_, rfl⟩
  obtain ⟨n, hn⟩ : ∃ x, vb.length = x := ⟨_, rfl⟩
  rw [hm, hn] at K1 K2
  rw [hm, hn]
  clear hm hn
  go_enter Try.func3, Try.ntmps3
  go_wp2_with fail
  refine K1.mono ?_
  rintro e w1 ⟨hres, hb1⟩
  have HRES : Hid (diffRes va vb e w1) := hres
  have HSP := diff_split hres
  clear hres
  obtain ⟨r1, x1, he1⟩ : ∃ r x, e = .returned (.tuple #[r, .int .i64 x]) := by
    rcases HSP with ⟨x, _, e⟩ | ⟨_, _, _, _, _, _, _, _, _, _, _, e, _⟩
    · exact ⟨_, _, e⟩
    · exact ⟨_, _, e⟩
  clear HSP
  subst he1
  go_wp2_with fail
  refine (K2.out w1 hb1).mono ?_
  rintro e w2 ⟨hres2, hb2⟩
  have h2 := hb1.trans (hb2.mono hb1.size)
  rcases diffs_same HRES.out hres2 with ⟨x, e1, rfl⟩ | ⟨L, hwf, hlen, ad, cap, ad', cap', e1, hc1, rfl, hc2⟩
  · injection e1 with e1
    injection e1 with e1
    have e2 : r1 = .slice none 0 0 ∧ (Value.int .i64 x1) = .int .i64 x := by simpa using e1
    obtain ⟨rfl, e3⟩ := e2
    injection e3 with _ e3
    subst e3
    have hN : chgsAt w2 none ([] : List Chg) := fun i hi => absurd hi (Nat.not_lt_zero i)
    clear HRES hres2 e1
    go_wp2_with fail
    refine (cbegun_any _).mono ?_
    rintro e w3 ⟨rfl, hb3⟩
    have h3 := h2.trans (hb3.mono h2.size)
    have KS := sameChanges_any none none 0 0 [] [] w3 (chgsAt_below hN hb3) (chgsAt_below hN hb3) (fun c hc => absurd hc List.not_mem_nil) (fun c hc => absurd hc List.not_mem_nil) (by decide) (by decide)
    rw [decide_eq_true rfl] at KS
    simp only [List.length_nil] at KS
    go_wp2_with fail
    refine KS.mono ?_
    rintro e w4 ⟨rfl, hb4⟩
    go_wp2
    go_ret
    exact ⟨rfl, h3.trans (hb4.mono h3.size)⟩
  · injection e1 with e1
    injection e1 with e1
    have e2 : r1 = .slice ad L.length cap ∧ (Value.int .i64 x1) = .int .i64 0 := by simpa using e1
    obtain ⟨rfl, e3⟩ := e2
    injection e3 with _ e3
    subst e3
    have HC1 : Hid (chgsAt w2 ad L) := chgsAt_below hc1 hb2
    have HC2 : Hid (chgsAt w2 ad' L) := hc2
    have HWF : Hid (wfChgs L) := hwf
    obtain ⟨ln, hln⟩ : ∃ x, L.length = x := ⟨_, rfl⟩
    have HLN : Hid (L.length = ln) := hln
    rw [hln] at hlen
    rw [hln]
    clear HRES hres2 e1 hc1 hc2 hwf hln
    go_wp2_with fail
    refine (cbegun_any _).mono ?_
    rintro e w3 ⟨rfl, hb3⟩
    have h3 := h2.trans (hb3.mono h2.size)
    have KS := sameChanges_any ad ad' cap cap' L L w3 (chgsAt_below HC1.out hb3) (chgsAt_below HC2.out hb3) HWF.out HWF.out (by rw [HLN.out]; omega) (by rw [HLN.out]; omega)
    rw [decide_eq_true rfl, HLN.out] at KS
    go_wp2_with fail
    refine KS.mono ?_
    rintro e w4 ⟨rfl, hb4⟩
    go_wp2
    go_ret
    exact ⟨rfl, h3.trans (hb4.mono h3.size)⟩
end Go.Proofs.Ytkjiaeolodemlaf.ch
