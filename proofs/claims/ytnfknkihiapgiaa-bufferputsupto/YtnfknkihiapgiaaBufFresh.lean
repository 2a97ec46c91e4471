/- Fresh: an entry whose row is its own. -/
import Derived.Test.YtnfknkihiapgiaaBufOwn
import Derived.Deep.AppendLies
import Derived.Deep.RegionLaw
namespace Go.Proofs.Ytnfknkihiapgiaa.bf
open Go.ChangeShapes Go.WideShapes Go.ChangeAt Go.RowKit
open vl
set_option linter.unusedVariables false
set_option linter.unusedSimpArgs false
theorem run_append_none {w : World} (base : Nat) (t ty e : TypeId) (i : TypeInfo) (size c : Nat) (ht : Try.prog.underlying t = some (.slice e)) (hi : Try.prog.info? e = some i)
    (v : Value) (n : Nat) (xs : List Value) (hown : w.ownsRow base e size v n xs) : (Builtin.append_ #[t, t] ty #[v, .slice none 0 c]).run Try.prog w = .ok v w := by
  rcases hown.2 with ⟨rfl, rfl⟩ | ⟨g, cap, cur, rfl, _, _, hnc, _⟩
  · simp [Builtin.append_, run_underlying ht, sizeOf, typeInfo, hi, Builtin.lenOf, Builtin.firstCells]
  · simp [Builtin.append_, run_underlying ht, sizeOf, typeInfo, hi, Builtin.lenOf, Builtin.firstCells, hnc, storeCells]
theorem wpList_append_none {w : World} {ops : Array Oper} {rest : List Oper} {o : Oper} {a : Act} {Q : Exit → Act → World → Prop} (hgd : o.guard = none) (s x : Operand) (t : TypeId)
    (ho : o.op = .call { callee := .builtin .append, args := #[s, x], argTypes := #[t, t] }) (base : Nat) (e : TypeId) (i : TypeInfo) (size c : Nat) (ht : Try.prog.underlying t = some (.slice e)) (hi : Try.prog.info? e = some i)
    (v : Value) (n : Nat) (xs : List Value) (hs : a.eval s = v) (hown : w.ownsRow base e size v n xs) (hx : a.eval x = .slice none 0 c)
    (h : wpList Try.prog ops Q rest (a.put o.dst v) w) : wpList Try.prog ops Q (o :: rest) a w := by
  refine wpList_plain hgd fun K hK => ?_
  have hrun := run_append_none (w := w) base t o.type e i size c ht hi v n xs hown
  unfold Oper.wp
  simp [execOp, ho, resolve, invoke, builtin, hs, hx, hrun, Result.andThen]
  exact hK _ _ h

theorem below_none {w w' : World} (h : w.grownBy w' none) : Below w.heap.size w w' := (Below.refl _ _).grown h (Nat.le_refl _) (fun b hb => by cases hb)
set_option maxHeartbeats 2000000 in
theorem fresh_any (e : EM) (x : Ent) (w : World) (h : ER w e x) (hl : x.row.length ≤ 1000000) :
    Calls Try.prog 36 #[e.val] w fun r w' => (∃ ad c, r = .returned (e.to (ad, x.row.length, c)).val ∧ ownV w' w.heap.size (.slice ad x.row.length c) x.row) ∧ Below w.heap.size w w' := by
  obtain ⟨i0, hi, hz0, hz1, hz2⟩ := info_parts Try.infoV
  have HI : Hid (Try.prog.info? 96 = some i0 ∧ i0.zero = some (.agg #[.int .i64 0, .int .i64 0, .string ⟨#[]⟩]) ∧ i0.size = 3 ∧ i0.bytes = 32) := ⟨hi, hz0, hz1, hz2⟩
  clear hi hz0 hz1 hz2
  obtain ⟨k1, t1, s1, ⟨a1, n1, c1⟩, m1⟩ := e
  have hrow := h.row
  have hlen := h.len
  dsimp only at hrow hlen
  subst hlen
  unfold EM.val EM.to hdV
  dsimp only
  obtain ⟨r, hr⟩ : ∃ z, x.row = z := ⟨_, rfl⟩
  rw [hr] at hrow hl ⊢
  clear h hr
  obtain ⟨n, hn⟩ : ∃ n, r.length = n := ⟨_, rfl⟩
  have HN : Hid (r.length = n) := hn
  have b0 : ((w.alloc (.cells #[.string k1, .int .i64 t1, .int .i64 s1, .slice a1 r.length c1, .bool m1] 28)).alloc (.cells #[.string ⟨#[]⟩, .int .i64 0, .int .i64 0, .slice none 0 0, .bool false] 28)).cell? ⟨w.heap.size, 0, none⟩ = some (.string k1) := by go_simp
  have b1 : ((w.alloc (.cells #[.string k1, .int .i64 t1, .int .i64 s1, .slice a1 r.length c1, .bool m1] 28)).alloc (.cells #[.string ⟨#[]⟩, .int .i64 0, .int .i64 0, .slice none 0 0, .bool false] 28)).cell? ⟨w.heap.size, 1, none⟩ = some (.int .i64 t1) := by go_simp
  have b2 : ((w.alloc (.cells #[.string k1, .int .i64 t1, .int .i64 s1, .slice a1 r.length c1, .bool m1] 28)).alloc (.cells #[.string ⟨#[]⟩, .int .i64 0, .int .i64 0, .slice none 0 0, .bool false] 28)).cell? ⟨w.heap.size, 2, none⟩ = some (.int .i64 s1) := by go_simp
  have b3 : ((w.alloc (.cells #[.string k1, .int .i64 t1, .int .i64 s1, .slice a1 r.length c1, .bool m1] 28)).alloc (.cells #[.string ⟨#[]⟩, .int .i64 0, .int .i64 0, .slice none 0 0, .bool false] 28)).cell? ⟨w.heap.size, 3, none⟩ = some (.slice a1 r.length c1) := by go_simp
  have b4 : ((w.alloc (.cells #[.string k1, .int .i64 t1, .int .i64 s1, .slice a1 r.length c1, .bool m1] 28)).alloc (.cells #[.string ⟨#[]⟩, .int .i64 0, .int .i64 0, .slice none 0 0, .bool false] 28)).cell? ⟨w.heap.size, 4, none⟩ = some (.bool m1) := by go_simp
  have g0 : ((w.alloc (.cells #[.string k1, .int .i64 t1, .int .i64 s1, .slice a1 r.length c1, .bool m1] 28)).alloc (.cells #[.string ⟨#[]⟩, .int .i64 0, .int .i64 0, .slice none 0 0, .bool false] 28)).cell? ⟨w.heap.size + 1, 0, none⟩ = some (.string ⟨#[]⟩) := by go_simp
  have g1 : ((w.alloc (.cells #[.string k1, .int .i64 t1, .int .i64 s1, .slice a1 r.length c1, .bool m1] 28)).alloc (.cells #[.string ⟨#[]⟩, .int .i64 0, .int .i64 0, .slice none 0 0, .bool false] 28)).cell? ⟨w.heap.size + 1, 1, none⟩ = some (.int .i64 0) := by go_simp
  have g2 : ((w.alloc (.cells #[.string k1, .int .i64 t1, .int .i64 s1, .slice a1 r.length c1, .bool m1] 28)).alloc (.cells #[.string ⟨#[]⟩, .int .i64 0, .int .i64 0, .slice none 0 0, .bool false] 28)).cell? ⟨w.heap.size + 1, 2, none⟩ = some (.int .i64 0) := by go_simp
  have g3 : ((w.alloc (.cells #[.string k1, .int .i64 t1, .int .i64 s1, .slice a1 r.length c1, .bool m1] 28)).alloc (.cells #[.string ⟨#[]⟩, .int .i64 0, .int .i64 0, .slice none 0 0, .bool false] 28)).cell? ⟨w.heap.size + 1, 3, none⟩ = some (.slice none 0 0) := by go_simp
  have g4 : ((w.alloc (.cells #[.string k1, .int .i64 t1, .int .i64 s1, .slice a1 r.length c1, .bool m1] 28)).alloc (.cells #[.string ⟨#[]⟩, .int .i64 0, .int .i64 0, .slice none 0 0, .bool false] 28)).cell? ⟨w.heap.size + 1, 4, none⟩ = some (.bool false) := by go_simp
  have f0 : ((w.alloc (.cells #[.string k1, .int .i64 t1, .int .i64 s1, .slice a1 r.length c1, .bool m1] 28)).alloc (.cells #[.string ⟨#[]⟩, .int .i64 0, .int .i64 0, .slice none 0 0, .bool false] 28)).frozen? ⟨w.heap.size, 3, none⟩ = false := by go_simp
  have f1 : ((w.alloc (.cells #[.string k1, .int .i64 t1, .int .i64 s1, .slice a1 r.length c1, .bool m1] 28)).alloc (.cells #[.string ⟨#[]⟩, .int .i64 0, .int .i64 0, .slice none 0 0, .bool false] 28)).frozen? ⟨w.heap.size + 1, 0, none⟩ = false := by go_simp
  have f11 : ((w.alloc (.cells #[.string k1, .int .i64 t1, .int .i64 s1, .slice a1 r.length c1, .bool m1] 28)).alloc (.cells #[.string ⟨#[]⟩, .int .i64 0, .int .i64 0, .slice none 0 0, .bool false] 28)).frozen? ⟨w.heap.size + 1, 1, none⟩ = false := by go_simp
  have f12 : ((w.alloc (.cells #[.string k1, .int .i64 t1, .int .i64 s1, .slice a1 r.length c1, .bool m1] 28)).alloc (.cells #[.string ⟨#[]⟩, .int .i64 0, .int .i64 0, .slice none 0 0, .bool false] 28)).frozen? ⟨w.heap.size + 1, 2, none⟩ = false := by go_simp
  have f13 : ((w.alloc (.cells #[.string k1, .int .i64 t1, .int .i64 s1, .slice a1 r.length c1, .bool m1] 28)).alloc (.cells #[.string ⟨#[]⟩, .int .i64 0, .int .i64 0, .slice none 0 0, .bool false] 28)).frozen? ⟨w.heap.size + 1, 3, none⟩ = false := by go_simp
  have f14 : ((w.alloc (.cells #[.string k1, .int .i64 t1, .int .i64 s1, .slice a1 r.length c1, .bool m1] 28)).alloc (.cells #[.string ⟨#[]⟩, .int .i64 0, .int .i64 0, .slice none 0 0, .bool false] 28)).frozen? ⟨w.heap.size + 1, 4, none⟩ = false := by go_simp
  have hbV : Below w.heap.size w ((w.alloc (.cells #[.string k1, .int .i64 t1, .int .i64 s1, .slice a1 r.length c1, .bool m1] 28)).alloc (.cells #[.string ⟨#[]⟩, .int .i64 0, .int .i64 0, .slice none 0 0, .bool false] 28)) := by
    repeat (first | exact Below.refl _ _ | (refine Below.alloc ?_ (by simp <;> omega) _))
  have hsV : ((w.alloc (.cells #[.string k1, .int .i64 t1, .int .i64 s1, .slice a1 r.length c1, .bool m1] 28)).alloc (.cells #[.string ⟨#[]⟩, .int .i64 0, .int .i64 0, .slice none 0 0, .bool false] 28)).heap.size = w.heap.size + 1 + 1 := by simp
  cases a1 with
  | none =>
    have h0 : r = [] := by
      cases r with
      | nil => rfl
      | cons c r =>
        obtain ⟨_, _, e, _⟩ := hrow 0 (by simp)
        cases e
    subst h0
    simp only [List.length_nil] at b3 ⊢
    clear hrow hl hn HN
    go_enter Try.func36, Try.ntmps36
    go_wp2_with (at_builtin; refine wpList_append_none rfl (.const (.slice none 0 0)) (.tmp 4) 26 rfl w.heap.size 96 i0 3 c1 Try.underlying26 HI.out.1 _ _ _ rfl (World.ownsRow_nil _ _ _ _) rfl ?_)
    exact bodyPost_ret (v := .agg #[.string k1, .int .i64 t1, .int .i64 s1, .slice none 0 0, .bool m1]) (by simp [results, Try.results36, go_sem]) rfl ⟨⟨none, 0, rfl, World.ownsRow_nil _ _ _ _⟩, by
      repeat (first | exact Below.refl _ _ | (refine Below.alloc ?_ (by simp <;> omega) _))⟩
  | some ad =>
    have HCE : Hid (∀ j u, (celCells r)[j]? = some u → ((w.alloc (.cells #[.string k1, .int .i64 t1, .int .i64 s1, .slice (some ad) n c1, .bool m1] 28)).alloc (.cells #[.string ⟨#[]⟩, .int .i64 0, .int .i64 0, .slice none 0 0, .bool false] 28)).cell? (ad.add j) = some u) := by
      intro j u hu
      rw [hn] at hbV
      have hlen : 0 < r.length := by
        rcases Nat.eq_zero_or_pos r.length with h | h
        · rw [List.length_eq_zero_iff.1 h] at hu; cases hu
        · exact h
      obtain ⟨b, o, e, _⟩ := hrow 0 hlen
      cases e
      exact cell_later hbV (rowAt_cells hrow j u hu)
    rw [hn] at hl b0 b1 b2 b3 b4 g0 g1 g2 g3 g4 f0 f1 f11 f12 f13 f14 hbV hsV ⊢
    clear hrow hn
    go_enter Try.func36, Try.ntmps36
    go_wp2_with (at_builtin; refine wpList_append_own _ rfl (.const (.slice none 0 0)) (.tmp 4) 26 rfl (w.heap.size + 1 + 1) 96 i0 (.agg #[.int .i64 0, .int .i64 0, .string ⟨#[]⟩]) 3 32 Try.underlying26 HI.out.1 HI.out.2.1 HI.out.2.2.1 HI.out.2.2.2 rfl (by decide) _ _ _ rfl (World.ownsRow_nil _ _ _ _) ad n c1 (celCells r) rfl (by rw [celCells_len, HN.out]) HCE.out (celCells_one r) (by unfold maxLen; omega) (by omega) (by simp) ?_; intro v2 w3 hown3 hgrow3 hnil3; have hb3 : Below ((w.alloc (.cells #[.string k1, .int .i64 t1, .int .i64 s1, .slice (some ad) n c1, .bool m1] 28)).alloc (.cells #[.string ⟨#[]⟩, .int .i64 0, .int .i64 0, .slice none 0 0, .bool false] 28)).heap.size ((w.alloc (.cells #[.string k1, .int .i64 t1, .int .i64 s1, .slice (some ad) n c1, .bool m1] 28)).alloc (.cells #[.string ⟨#[]⟩, .int .i64 0, .int .i64 0, .slice none 0 0, .bool false] 28)) w3 := below_none hgrow3; have y0 := cell_later hb3 b0; have y1 := cell_later hb3 b1; have y2 := cell_later hb3 b2; have y3 := cell_later hb3 b3; have y4 := cell_later hb3 b4; have z0 := cell_later hb3 g0; have z1 := cell_later hb3 g1; have z2 := cell_later hb3 g2; have z3 := cell_later hb3 g3; have z4 := cell_later hb3 g4; rw [Nat.zero_add, List.nil_append] at hown3; obtain ⟨a2, c2, hv2⟩ := ownV_form (show ownV w3 _ v2 r from (by unfold ownV; rw [HN.out]; exact hown3)); rw [HN.out] at hv2; subst hv2; have h0 : w3.frozen? ⟨w.heap.size, 3, none⟩ = false := (by rw [hb3.frozen (p := ⟨w.heap.size, 3, none⟩) (by dsimp only; omega)]; exact f0); have h1 : w3.frozen? ⟨w.heap.size + 1, 0, none⟩ = false := (by rw [hb3.frozen (p := ⟨w.heap.size + 1, 0, none⟩) (by dsimp only; omega)]; exact f1); have h11 : w3.frozen? ⟨w.heap.size + 1, 1, none⟩ = false := (by rw [hb3.frozen (p := ⟨w.heap.size + 1, 1, none⟩) (by dsimp only; omega)]; exact f11); have h12 : w3.frozen? ⟨w.heap.size + 1, 2, none⟩ = false := (by rw [hb3.frozen (p := ⟨w.heap.size + 1, 2, none⟩) (by dsimp only; omega)]; exact f12); have h13 : w3.frozen? ⟨w.heap.size + 1, 3, none⟩ = false := (by rw [hb3.frozen (p := ⟨w.heap.size + 1, 3, none⟩) (by dsimp only; omega)]; exact f13); have h14 : w3.frozen? ⟨w.heap.size + 1, 4, none⟩ = false := (by rw [hb3.frozen (p := ⟨w.heap.size + 1, 4, none⟩) (by dsimp only; omega)]; exact f14))
    have hbW : Below w.heap.size w w3 := hbV.trans (hb3.mono hbV.size)
    refine bodyPost_ret (v := .agg #[.string k1, .int .i64 t1, .int .i64 s1, .slice a2 n c2, .bool m1]) (by simp [results, Try.results36, go_sem, y0, y1, y2, y3, y4, z0, z1, z2, z3, z4]) rfl ⟨⟨a2, c2, rfl, ?_⟩, by
      repeat (first | exact hbW | (refine Below.setCell ?_ (by dsimp only; omega) _))⟩
    unfold ownV
    rw [HN.out]
    refine own_mono (own_same hown3 (fun g hg => ?_)) (by omega)
    have hg2 := (own_lt hown3 hg).1
    repeat rw [heap_setCell_other _ _ _ _ (by dsimp only; omega)]
end Go.Proofs.Ytnfknkihiapgiaa.bf
