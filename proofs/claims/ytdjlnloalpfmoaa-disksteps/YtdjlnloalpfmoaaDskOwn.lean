/- The document's OwnDisk: a disk of one's own in which a slot is another one. -/
import Derived.Test.YtdjlnloalpfmoaaDskCalls2
import Derived.Deep.RegionLaw
namespace Go.Proofs.Ytdjlnloalpfmoaa.dk
open Go.ChangeShapes Go.WideShapes Go.ChangeAt Go.RowKit
set_option linter.unusedVariables false
set_option linter.unusedSimpArgs false
theorem step_appS {ops : Array Oper} {o : Oper} {a : Act} {K : Act → World → Prop} {Q : Exit → Act → World → Prop} {E : Prop} (hgd : o.guard = none) (s x : Operand)
    (hop : o.op = .call { callee := .builtin .append, args := #[s, x], argTypes := #[22, 22] })
    (base : Nat) (v : Value) (r : List Slt) (s1 s2 : ByteArray) (s3 : Bool) (w1 : World) (ho : ownS w1 base v r) (hl : r.length ≤ 1000000) (hb : base ≤ w1.heap.size)
    (hs : a.eval s = v) (hx : a.eval x = .slice (some ⟨w1.heap.size, 0, none⟩) 1 1)
    (h : ∀ g cap2 w2, ownS w2 base (.slice (some ⟨g, 0, none⟩) (r.length + 1) cap2) (r ++ [⟨s1, s2, s3⟩]) → (w1.alloc (.cells #[.string s1, .string s2, .bool s3] 47)).grownBy w2 v.ownBlock → g < w2.heap.size → K (a.put o.dst (.slice (some ⟨g, 0, none⟩) (r.length + 1) cap2)) w2) :
    if Region.wanted o (yielded ops a.tmps) = true then Oper.wp Try.prog o a (w1.alloc (.cells #[.string s1, .string s2, .bool s3] 47)) K Q else E := by
  obtain ⟨i0, hi, hz0, hz1, hz2⟩ := info_parts infoS
  refine step_append_lies _ hgd s x 22 hop base 47 i0 (.agg #[.string ⟨#[]⟩, .string ⟨#[]⟩, .bool false]) 3 40 Try.underlying22 hi hz0 hz1 hz2 rfl (by decide) v r.length (sltCells r) hs
    (World.ownsRow.alloc ho _) ⟨w1.heap.size, 0, none⟩ 1 1 [.string s1, .string s2, .bool s3] hx rfl (cell_three_new _ _ _ _ _) (by intro u hu; simp at hu; rcases hu with rfl | rfl | rfl <;> rfl) (by decide) (by unfold maxLen; omega) (by omega) (by simp; omega) (w1.heap.size + 1) (by simp) ?_
  intro g cap2 w2 h2 h3 h4 h5
  refine h g cap2 w2 ?_ h3 h5
  unfold ownS
  rw [List.length_append, sltCells_snoc]
  exact h2
/-- one slot another one -/
def putF (s : Int) (x : Slt) (i : Nat) (c : Slt) : Slt := if (i : Int) = s then x else c
theorem drop_one {n base : Nat} {W0 wr w2 : World} {v u : Value} {r : List Slt} {o : Obj} {C : Nat} (hb : Below C W0 wr) (hC : C < base) (hlow : base ≤ wr.heap.size) (hown : ownS wr base v r) (hg : (wr.alloc o).grownBy w2 v.ownBlock) (hc : wr.cell? ⟨C, 0, none⟩ = some u) (hf : wr.frozen? ⟨C, 0, none⟩ = false) :
    Below C W0 w2 ∧ w2.cell? ⟨C, 0, none⟩ = some u ∧ w2.frozen? ⟨C, 0, none⟩ = false ∧ base ≤ w2.heap.size := by
  have hlt : C < wr.heap.size := World.block_lt_of_cell? _ _ hc
  have hne : v.ownBlock ≠ some C := fun h => by have := (World.ownsRow.lt hown C h).1; omega
  have hb1 : Below (C + 1) wr w2 := ((Below.refl _ _).alloc (by omega) o).grown hg (by simp; omega) (fun k hk => by have := (World.ownsRow.lt hown k hk).1; omega)
  refine ⟨hb.trans (hb1.mono (by omega)), ?_, ?_, ?_⟩
  · rw [hb1.cell (p := ⟨C, 0, none⟩) (by simp)]; exact hc
  · rw [hb1.frozen (p := ⟨C, 0, none⟩) (by simp)]; exact hf
  · have := hb1.size; omega
set_option maxRecDepth 10000 in
set_option maxHeartbeats 4000000 in
theorem ownDisk_any (a : Option Addr) (cap : Nat) (l : List Slt) (s : Int) (x : Slt) (w : World) (hl : l.length ≤ 8) (ha : slotsAt w a l) :
    Calls Try.prog 28 #[diskV a l.length cap, .int .i64 s, x.val] w fun e w' => (∃ ad cp, e = .returned (diskV ad l.length cp) ∧ ownS w' w.heap.size (.slice ad l.length cp) (mapS l (putF s x))) ∧ Below w.heap.size w w' := by
  obtain ⟨x1, x2, x3⟩ := x
  unfold diskV Slt.val
  dsimp only
  obtain ⟨F, hF⟩ : ∃ z : Nat → Slt, (fun i => putF s ⟨x1, x2, x3⟩ i (l.getD i default)) = z := ⟨_, rfl⟩
  have HF : Hid (∀ i, F i = putF s ⟨x1, x2, x3⟩ i (l.getD i default)) := fun i => by rw [← hF]
  have hM : mapS l (putF s ⟨x1, x2, x3⟩) = (List.range l.length).map F := by rw [← hF]; rfl
  obtain ⟨n, hn⟩ : ∃ n, l.length = n := ⟨_, rfl⟩
  have HN : Hid (l.length = n) := hn
  rw [hM]
  rw [hn] at hl ⊢
  clear hn hM hF
  have hb0 : Below w.heap.size w ((((w.alloc (.cells #[.slice a n cap] 24)).alloc (.cells #[.string x1, .string x2, .bool x3] 47)).alloc (.cells #[.slice none 0 0] 24)).alloc (.cells #[.slice none 0 0] 24)) := by
    repeat (first | exact Below.refl _ _ | (refine Below.alloc ?_ (by simp <;> omega) _))
  have hs0 : ((((w.alloc (.cells #[.slice a n cap] 24)).alloc (.cells #[.string x1, .string x2, .bool x3] 47)).alloc (.cells #[.slice none 0 0] 24)).alloc (.cells #[.slice none 0 0] 24)).heap.size = w.heap.size + 1 + 1 + 1 + 1 := by simp
  have b0 : ((((w.alloc (.cells #[.slice a n cap] 24)).alloc (.cells #[.string x1, .string x2, .bool x3] 47)).alloc (.cells #[.slice none 0 0] 24)).alloc (.cells #[.slice none 0 0] 24)).cell? ⟨w.heap.size, 0, none⟩ = some (.slice a n cap) := by go_simp
  have b1 : ((((w.alloc (.cells #[.slice a n cap] 24)).alloc (.cells #[.string x1, .string x2, .bool x3] 47)).alloc (.cells #[.slice none 0 0] 24)).alloc (.cells #[.slice none 0 0] 24)).cell? ⟨w.heap.size + 1, 0, none⟩ = some (.string x1) := by go_simp
  have b2 : ((((w.alloc (.cells #[.slice a n cap] 24)).alloc (.cells #[.string x1, .string x2, .bool x3] 47)).alloc (.cells #[.slice none 0 0] 24)).alloc (.cells #[.slice none 0 0] 24)).cell? ⟨w.heap.size + 1, 1, none⟩ = some (.string x2) := by go_simp
  have b3 : ((((w.alloc (.cells #[.slice a n cap] 24)).alloc (.cells #[.string x1, .string x2, .bool x3] 47)).alloc (.cells #[.slice none 0 0] 24)).alloc (.cells #[.slice none 0 0] 24)).cell? ⟨w.heap.size + 1, 2, none⟩ = some (.bool x3) := by go_simp
  have b4 : ((((w.alloc (.cells #[.slice a n cap] 24)).alloc (.cells #[.string x1, .string x2, .bool x3] 47)).alloc (.cells #[.slice none 0 0] 24)).alloc (.cells #[.slice none 0 0] 24)).cell? ⟨w.heap.size + 1 + 1, 0, none⟩ = some (.slice none 0 0) := by go_simp
  have f4 : ((((w.alloc (.cells #[.slice a n cap] 24)).alloc (.cells #[.string x1, .string x2, .bool x3] 47)).alloc (.cells #[.slice none 0 0] 24)).alloc (.cells #[.slice none 0 0] 24)).frozen? ⟨w.heap.size + 1 + 1, 0, none⟩ = false := by go_simp
  have b5 : ((((w.alloc (.cells #[.slice a n cap] 24)).alloc (.cells #[.string x1, .string x2, .bool x3] 47)).alloc (.cells #[.slice none 0 0] 24)).alloc (.cells #[.slice none 0 0] 24)).cell? ⟨w.heap.size + 1 + 1 + 1, 0, none⟩ = some (.slice none 0 0) := by go_simp
  have f5 : ((((w.alloc (.cells #[.slice a n cap] 24)).alloc (.cells #[.string x1, .string x2, .bool x3] 47)).alloc (.cells #[.slice none 0 0] 24)).alloc (.cells #[.slice none 0 0] 24)).frozen? ⟨w.heap.size + 1 + 1 + 1, 0, none⟩ = false := by go_simp
  go_enter Try.func28, Try.ntmps28
  go_wp2
  generalize (((w.alloc (.cells #[.slice a n cap] 24)).alloc (.cells #[.string x1, .string x2, .bool x3] 47)).alloc (.cells #[.slice none 0 0] 24)).alloc (.cells #[.slice none 0 0] 24) = W0 at *
  go_loopw [8] (fun i wr => ∃ k va vc, k ≤ n ∧ i = .int .i64 (k : Nat) ∧ Below (w.heap.size + 1 + 1 + 1) W0 wr ∧ wr.cell? ⟨w.heap.size + 1 + 1 + 1, 0, none⟩ = some (.slice va k vc) ∧ wr.frozen? ⟨w.heap.size + 1 + 1 + 1, 0, none⟩ = false ∧ w.heap.size + 1 + 1 + 1 + 1 ≤ wr.heap.size ∧ ownS wr (w.heap.size + 1 + 1 + 1 + 1) (.slice va k vc) ((List.range k).map F)) (fun i _ => n - (intOf i).toNat)
  case atStart => exact ⟨0, none, 0, Nat.zero_le _, rfl, Below.refl _ _, b5, f5, by omega, World.ownsRow_nil _ _ _ _⟩
  case round =>
    obtain ⟨k, va, vc, hk, rfl, hnx, cv, cf, hlow, hown⟩ := hrel
    have HOW : Hid (ownS wr (w.heap.size + 1 + 1 + 1 + 1) (.slice va k vc) ((List.range k).map F)) := hown
    clear hown
    have hnw : Below w.heap.size w wr := hb0.trans (hnx.mono (by omega))
    have c0 : wr.cell? ⟨w.heap.size, 0, none⟩ = some (.slice a n cap) := by rw [hnx.cell (p := ⟨w.heap.size, 0, none⟩) (by simp <;> omega)]; exact b0
    have c1 : wr.cell? ⟨w.heap.size + 1, 0, none⟩ = some (.string x1) := by rw [hnx.cell (p := ⟨w.heap.size + 1, 0, none⟩) (by simp <;> omega)]; exact b1
    have c2 : wr.cell? ⟨w.heap.size + 1, 1, none⟩ = some (.string x2) := by rw [hnx.cell (p := ⟨w.heap.size + 1, 1, none⟩) (by simp <;> omega)]; exact b2
    have c3 : wr.cell? ⟨w.heap.size + 1, 2, none⟩ = some (.bool x3) := by rw [hnx.cell (p := ⟨w.heap.size + 1, 2, none⟩) (by simp <;> omega)]; exact b3
    have c4 : wr.cell? ⟨w.heap.size + 1 + 1, 0, none⟩ = some (.slice none 0 0) := by rw [hnx.cell (p := ⟨w.heap.size + 1 + 1, 0, none⟩) (by simp)]; exact b4
    have g4 : wr.frozen? ⟨w.heap.size + 1 + 1, 0, none⟩ = false := by rw [hnx.frozen (p := ⟨w.heap.size + 1 + 1, 0, none⟩) (by simp)]; exact f4
    by_cases hlt : k < n
    · have HRL : Hid (((List.range k).map F).length = k) := by show _ = _; simp
      by_cases he : (k : Int) = s
      · have HFK : Hid (F k = ⟨x1, x2, x3⟩) := by show _ = _; rw [HF.out]; unfold putF; rw [if_pos he]
        have he' : ((k : Int) == s) = true := by simpa using he
        clear he
        go_wp2_with (at_builtin; refine append_slot rfl (.tmp 20) (.tmp 22) rfl (w.heap.size + 1 + 1 + 1 + 1) (.slice va k vc) _ rfl wr HOW.out x1 x2 x3 wr.heap.size rfl rfl (by rw [HRL.out]; omega) hlow ?_; intro v2 w2 hown2 hgrow2; obtain ⟨p1, p2, p3, p4⟩ := drop_one (n := n) hnx (by omega) hlow HOW.out hgrow2 cv cf; obtain ⟨ad9, cp9, hv9, _⟩ := own_form hown2; have hv8 : v2 = .slice ad9 (k + 1) cp9 := (by rw [hv9]; simp); clear hv9; subst hv8)
        have hO2 : ownS (w2.setCell ⟨w.heap.size + 1 + 1 + 1, 0, none⟩ (.slice ad9 (k + 1) cp9)) (w.heap.size + 1 + 1 + 1 + 1) (.slice ad9 (k + 1) cp9) ((List.range (k + 1)).map F) := by
          rw [ofs_succ, HFK.out]
          exact ownsRow_setCell_below hown2 (a := ⟨w.heap.size + 1 + 1 + 1, 0, none⟩) (by simp) _
        go_roundw
        case rel => exact ⟨k + 1, ad9, cp9, by omega, by go_num, p1.setCell (by simp) _, World.cell?_setCell_same _ _ _ p2, by simpa using p3, by simpa using p4, hO2⟩
        case measure => simp [intOf]; omega
      · have HFK : Hid (F k = l.getD k default) := by show _ = _; rw [HF.out]; unfold putF; rw [if_neg he]
        have he' : ((k : Int) == s) = false := by simpa using he
        clear he
        obtain ⟨b, o, e, y1, y2, y3⟩ := ha k (by rw [HN.out]; exact hlt)
        subst e
        have q1 := cell_later hnw y1
        have q2 := cell_later hnw y2
        have q3 := cell_later hnw y3
        obtain ⟨⟨sa, wa, ba⟩, hz⟩ : ∃ z, l.getD k default = z := ⟨_, rfl⟩
        rw [hz] at q1 q2 q3 HFK
        dsimp only at q1 q2 q3
        have i1 : (0 : Int) ≤ (k : Int) := by omega
        have i2 : (k : Int) < (n : Int) := by omega
        have l3 : w.heap.size + 1 + 1 + 1 < wr.heap.size := by omega
        have l0 : w.heap.size < wr.heap.size := by omega
        have lb : b < wr.heap.size := World.block_lt_of_cell? _ _ q1
        clear hz y1 y2 y3 ha
        go_wp2
        go_region_law (first
          | (refine step_appS (by rfl) (.tmp 26) (.tmp 32) (by rfl) (w.heap.size + 1 + 1 + 1 + 1) (.slice va k vc) _ sa wa ba wr.drew (World.ownsRow.drew HOW.out) (by rw [HRL.out]; omega) (by exact hlow) (by rfl) (by rfl) ?_; intro g9 cap9 w2 hown2 hgrow2 hlt9; obtain ⟨p1, p2, p3, p4⟩ := drop_one (n := n) hnx.drew (by omega) hlow (World.ownsRow.drew HOW.out) hgrow2 cv cf; rw [HRL.out] at hown2 ⊢))
        all_goals
          have hO2 : ownS (w2.setCell ⟨w.heap.size + 1 + 1 + 1, 0, none⟩ (.slice (some ⟨g9, 0, none⟩) (k + 1) cap9)) (w.heap.size + 1 + 1 + 1 + 1) (.slice (some ⟨g9, 0, none⟩) (k + 1) cap9) ((List.range (k + 1)).map F) := by
            rw [ofs_succ, HFK.out]
            exact ownsRow_setCell_below hown2 (a := ⟨w.heap.size + 1 + 1 + 1, 0, none⟩) (by simp) _
          go_wp2
          go_roundw
          case rel => exact ⟨k + 1, some ⟨g9, 0, none⟩, cap9, by omega, by go_num, p1.setCell (by simp) _, World.cell?_setCell_same _ _ _ p2, by simpa using p3, by simpa using p4, hO2⟩
          case measure => simp [intOf]; omega
    · have hkn : k = n := by omega
      subst hkn
      go_wp2
      have hO2 := ownsRow_setCell_below HOW.out (a := ⟨w.heap.size + 1 + 1, 0, none⟩) (by simp) (.slice va k vc)
      have y3 : (wr.setCell ⟨w.heap.size + 1 + 1, 0, none⟩ (.slice va k vc)).cell? ⟨w.heap.size + 1 + 1, 0, none⟩ = some (.slice va k vc) := World.cell?_setCell_same _ _ _ c4
      exact bodyPost_ret (v := .agg #[.slice va k vc]) (by simp [results, Try.results28, go_sem, y3]) rfl ⟨⟨va, vc, rfl, World.ownsRow.mono hO2 (by omega)⟩, hnw.setCell (by dsimp only; omega) _⟩
end Go.Proofs.Ytdjlnloalpfmoaa.dk
