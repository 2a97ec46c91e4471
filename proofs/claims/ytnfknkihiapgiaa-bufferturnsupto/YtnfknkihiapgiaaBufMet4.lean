/- Meet's rounds: what is read, what is written. -/
import Derived.Test.YtnfknkihiapgiaaBufMet3
import Derived.Test.YtnfknkihiapgiaaBufBox
namespace Go.Proofs.Ytnfknkihiapgiaa.bf
open Go.ChangeShapes Go.WideShapes Go.ChangeAt Go.RowKit
open vl
set_option linter.unusedVariables false
set_option linter.unusedSimpArgs false
/-- i parts are done, and j entries of the next -/
def metD (p : Plc) (ls : List (List Ent)) (i j : Nat) : List (List Ent) := (metLs p ls i).set i (metL p (ls.getD i []) j)
theorem metD_at {p : Plc} {ls : List (List Ent)} {i j : Nat} (h : i < ls.length) : (metD p ls i j).getD i [] = metL p (ls.getD i []) j := getD_set_same (by rw [metLs_len]; exact h)
theorem metD_zero {p : Plc} {ls : List (List Ent)} {i : Nat} (h : i < ls.length) : metD p ls i 0 = metLs p ls i := by
  unfold metD
  rw [metL_zero, ← metLs_at (p := p) h]
  exact set_self (by rw [metLs_len]; exact h)
theorem metD_end {p : Plc} {ls : List (List Ent)} {i : Nat} (h : i < ls.length) : metD p ls i (ls.getD i []).length = metLs p ls (i + 1) := by
  unfold metD
  rw [metL_end, metLs_step h]
theorem froz_in {w : World} {base : Nat} {e : TypeId} {size n cap g : Nat} {xs : List Value} (h : w.ownsRow base e size (.slice (some ⟨g, 0, none⟩) n cap) n xs) (j : Nat) : w.frozen? ⟨g, j, none⟩ = false := by
  rcases h.2 with ⟨e, _⟩ | ⟨g', cap', cur, hv, hr⟩
  · cases e
  · cases hv
    simp [World.frozen?, hr]
theorem MSt.read {w V X : World} {base : Nat} {hs : List Hdr} {hv : Value} {hn : Nat} {hx : List Value} {ls : List (List Ent)} {p : Plc} {i j : Nat} (h : MSt w V X base hs hv hn hx (metD p ls i j)) (hi : i < hs.length) (hl : ls.length = hs.length) (hj : j < (ls.getD i []).length) :
    ∃ (g : Nat) (e : EM), hs.getD i hd0 = (some ⟨g, 0, none⟩, (ls.getD i []).length, (hs.getD i hd0).2.2) ∧ X.cell? ⟨g, j * 5, none⟩ = some (.string e.key) ∧ X.cell? ⟨g, j * 5 + 1, none⟩ = some (.int .i64 e.time) ∧ X.cell? ⟨g, j * 5 + 2, none⟩ = some (.int .i64 e.seq) ∧ X.cell? ⟨g, j * 5 + 3, none⟩ = some (hdV e.row) ∧ X.cell? ⟨g, j * 5 + 4, none⟩ = some (.bool e.met) ∧ X.frozen? ⟨g, j * 5 + 4, none⟩ = false ∧ plOf ((ls.getD i []).getD j default) = (e.key, e.time, e.seq) := by
  obtain ⟨ess, ho⟩ := h.op
  have hok := ho.oe i hi
  rw [metD_at (by omega)] at hok
  have hlen : (metL p (ls.getD i []) j).length = (ls.getD i []).length := metL_len _ _ _
  obtain ⟨g, hh⟩ := hd_slice hok (by omega)
  have hel : (ess.getD i []).length = (ls.getD i []).length := by rw [hok.len, hlen]
  rw [hel] at hh
  have hv : hdV (hs.getD i hd0) = .slice (some ⟨g, 0, none⟩) (ess.getD i []).length (hs.getD i hd0).2.2 := by rw [hh, hel]; rfl
  rw [hv] at hok
  obtain ⟨b, o, ea, x1, x2, x3, x4, x5⟩ := hok.at j (by omega)
  cases ea
  have her := hok.ers.2 j (by omega)
  rw [metL_at hj] at her
  rw [Nat.zero_add] at x1 x2 x3 x4 x5
  exact ⟨g, (ess.getD i []).getD j default, hh, x1, x2, x3, x4, x5, froz_in hok.own _, by unfold plOf; rw [her.key, her.time, her.seq]⟩
theorem MSt.yes {w V X : World} {base g : Nat} {hs : List Hdr} {hv : Value} {hn : Nat} {hx : List Value} {ls : List (List Ent)} {p : Plc} {i j : Nat} (h : MSt w V X base hs hv hn hx (metD p ls i j)) (hw : w.heap.size ≤ base) (hi : i < hs.length) (hl : ls.length = hs.length) (hj : j < (ls.getD i []).length) (hg : (hs.getD i hd0).1 = some ⟨g, 0, none⟩) (hp : plOf ((ls.getD i []).getD j default) = p) :
    MSt w V (X.setCell ⟨g, j * 5 + 4, none⟩ (.bool true)) base hs hv hn hx (metD p ls i (j + 1)) ∧ KeepO notE X (X.setCell ⟨g, j * 5 + 4, none⟩ (.bool true)) := by
  have hil : i < ls.length := by omega
  have k := h.met (i := j) hw hi (by rw [metD_at hil, metL_len]; exact hj) hg
  rw [metD_at hil, metL_yes hj hp] at k
  have e : (metD p ls i j).set i (metL p (ls.getD i []) (j + 1)) = metD p ls i (j + 1) := by unfold metD; rw [List.set_set]
  rw [e] at k
  exact k
theorem MSt.no {w V X : World} {base : Nat} {hs : List Hdr} {hv : Value} {hn : Nat} {hx : List Value} {ls : List (List Ent)} {p : Plc} {i j : Nat} (h : MSt w V X base hs hv hn hx (metD p ls i j)) (hj : j < (ls.getD i []).length) (hp : plOf ((ls.getD i []).getD j default) ≠ p) : MSt w V X base hs hv hn hx (metD p ls i (j + 1)) := by
  unfold metD at h ⊢
  rw [← metL_no hj hp]; exact h
theorem MSt.shed {w V X : World} {base : Nat} {x : BX} {b : Buf} {p : Plc} (h : MSt w V X base ((x.m :: x.rs).map (·.1)) (.slice x.ra x.rs.length x.rc) x.rs.length (x.rs.map fun q => hdV q.1) (metLs p (partsB b) (partsB b).length)) : ∃ x', bufV (meetB p b) x' = bufV b x ∧ OB X base x' (meetB p b) := by
  obtain ⟨ess, ho⟩ := h.op
  rw [metLs_end] at ho
  obtain ⟨x', h1, h2⟩ := OB_again (b := b) ho h.hds
  exact ⟨x', h1, h2⟩
theorem MSt_start {w V : World} {base : Nat} {x : BX} {b : Buf} {p : Plc} (h : OB V base x b) (hb : Below w.heap.size w V) : MSt w V V base ((x.m :: x.rs).map (·.1)) (.slice x.ra x.rs.length x.rc) x.rs.length (x.rs.map fun q => hdV q.1) (metLs p (partsB b) 0) :=
  ⟨⟨_, by rw [metLs_zero]; exact OP_of h⟩, h.hds, KeepO.refl _ _, hb⟩
theorem nb_keep {V X : World} {B : Nat} (h : nbAt V B) (hk : KeepO notE V X) : nbAt X B := by
  obtain ⟨c, f, ho⟩ := h.ty
  have hh : X.heap[B]? = V.heap[B]? := by
    rw [ho]
    exact hk B _ ho rfl (fun c' f' e => by cases e)
  exact ⟨(World.cell?_of_block (a := ⟨B, 0, none⟩) hh).trans h.n0, (World.cell?_of_block (a := ⟨B, 1, none⟩) hh).trans h.n1, (World.cell?_of_block (a := ⟨B, 2, none⟩) hh).trans h.n2, (froz_of (p := ⟨B, 0, none⟩) hh).trans h.o0, (froz_of (p := ⟨B, 1, none⟩) hh).trans h.o1, (froz_of (p := ⟨B, 2, none⟩) hh).trans h.o2, ⟨c, f, by rw [hh]; exact ho⟩⟩
/-- what is written is what stood there -/
theorem set_kept {W : World} {b o : Nat} {v : Value} (h : W.cell? ⟨b, o, none⟩ = some v) : W.setCell ⟨b, o, none⟩ v = W := by
  unfold World.cell? at h
  unfold World.setCell
  dsimp only at h ⊢
  cases hb : W.heap[b]? with
  | none => rw [hb] at h; cases h
  | some x =>
    rw [hb] at h
    cases x with
    | cells c t f =>
      simp only [Option.isSome_none, Bool.false_eq_true, if_false] at h
      have hh : W.heap.modify b (fun x => match x with
        | .cells c elem frozen => .cells (if (none : Option Nat).isSome then c else c.setIfInBounds o v) elem frozen
        | o => o) = W.heap := by
        refine Array.ext (by simp) (fun i h1 h2 => ?_)
        rw [Array.getElem_modify]
        by_cases e : b = i
        · subst e
          have hx : W.heap[b] = .cells c t f := by
            have := Array.getElem?_eq_getElem h2
            rw [hb] at this
            injection this with this
            exact this.symm
          rw [if_pos rfl, hx]
          dsimp only
          have hc : c.setIfInBounds o v = c := by
            obtain ⟨ho, hv⟩ := Array.getElem?_eq_some_iff.1 h
            refine Array.ext (by simp) (fun j k1 k2 => ?_)
            rw [Array.getElem_setIfInBounds k2]
            by_cases e2 : o = j
            · subst e2; simp [hv]
            · simp [e2]
          simp [hc]
        · rw [if_neg e]
      exact congrArg (fun z : Array Obj => { W with heap := z }) hh
    | _ => cases h
/-- one entry more, whatever it was: met as it was, or of the place -/
theorem MSt.put {w V X : World} {base g : Nat} {hs : List Hdr} {hv : Value} {hn : Nat} {hx : List Value} {ls : List (List Ent)} {p : Plc} {i j : Nat} {m v : Bool} (h : MSt w V X base hs hv hn hx (metD p ls i j)) (hw : w.heap.size ≤ base) (hi : i < hs.length) (hl : ls.length = hs.length) (hj : j < (ls.getD i []).length) (hg : (hs.getD i hd0).1 = some ⟨g, 0, none⟩)
    (hc : X.cell? ⟨g, j * 5 + 4, none⟩ = some (.bool m)) (hm : v = (m || decide (plOf ((ls.getD i []).getD j default) = p))) : MSt w V (X.setCell ⟨g, j * 5 + 4, none⟩ (.bool v)) base hs hv hn hx (metD p ls i (j + 1)) := by
  by_cases hp : plOf ((ls.getD i []).getD j default) = p
  · have e : v = true := by rw [hm, decide_eq_true hp, Bool.or_true]
    rw [e]; exact (h.yes hw hi hl hj hg hp).1
  · have e : v = m := by rw [hm, decide_eq_false hp, Bool.or_false]
    rw [e, set_kept hc]; exact h.no hj hp
theorem MSt.hlen {w V X : World} {base : Nat} {hs : List Hdr} {hv : Value} {hn : Nat} {hx : List Value} {ls : List (List Ent)} {p : Plc} {i : Nat} (h : MSt w V X base hs hv hn hx (metLs p ls i)) (hi : i < hs.length) (hl : ls.length = hs.length) : (hs.getD i hd0).2.1 = (ls.getD i []).length := by
  obtain ⟨ess, ho⟩ := h.op
  have hok := ho.oe i hi
  rw [metLs_at (by omega)] at hok
  obtain ⟨ad, cp, e⟩ := hok.form
  unfold hdV at e
  injection e with _ e2 _
  rw [e2, hok.len]
theorem MSt.head {w V X : World} {base k : Nat} {x : BX} {L : List (List Ent)} (h : MSt w V X base ((x.m :: x.rs).map (·.1)) (.slice x.ra x.rs.length x.rc) x.rs.length (x.rs.map fun q => hdV q.1) L) (hk : k < x.rs.length) : ∃ g, x.ra = some ⟨g, 0, none⟩ ∧ X.cell? ⟨g, 0 + k, none⟩ = some (hdV (((x.m :: x.rs).map (·.1)).getD (k + 1) hd0)) := by
  rcases h.hds.2 with ⟨_, h0⟩ | ⟨g, cap, cur, hv, _⟩
  · omega
  · injection hv with e1 _ _
    refine ⟨g, e1, ?_⟩
    have hc := World.ownsRow.cells h.hds (g := g) (by rw [e1]; rfl) k (hdV (x.rs[k]).1) (by rw [List.getElem?_map, List.getElem?_eq_getElem hk]; rfl)
    rw [add_at] at hc
    rw [hc, List.map_cons, List.getD_cons_succ, List.getD_eq_getElem?_getD, List.getElem?_map, List.getElem?_eq_getElem hk]
    rfl
theorem three_0 {W : World} {C : Nat} {a b c : Value} (h0 : W.cell? ⟨C, 0, none⟩ = some a) (h1 : W.cell? ⟨C, 1, none⟩ = some b) (h2 : W.cell? ⟨C, 2, none⟩ = some c) (u0 u1 u2 : Value) : (((W.setCell ⟨C, 0, none⟩ u0).setCell ⟨C, 1, none⟩ u1).setCell ⟨C, 2, none⟩ u2).cell? ⟨C, 0, none⟩ = some u0 := by go_simp
theorem three_1 {W : World} {C : Nat} {a b c : Value} (h0 : W.cell? ⟨C, 0, none⟩ = some a) (h1 : W.cell? ⟨C, 1, none⟩ = some b) (h2 : W.cell? ⟨C, 2, none⟩ = some c) (u0 u1 u2 : Value) : (((W.setCell ⟨C, 0, none⟩ u0).setCell ⟨C, 1, none⟩ u1).setCell ⟨C, 2, none⟩ u2).cell? ⟨C, 1, none⟩ = some u1 := by go_simp
theorem three_2 {W : World} {C : Nat} {a b c : Value} (h0 : W.cell? ⟨C, 0, none⟩ = some a) (h1 : W.cell? ⟨C, 1, none⟩ = some b) (h2 : W.cell? ⟨C, 2, none⟩ = some c) (u0 u1 u2 : Value) : (((W.setCell ⟨C, 0, none⟩ u0).setCell ⟨C, 1, none⟩ u1).setCell ⟨C, 2, none⟩ u2).cell? ⟨C, 2, none⟩ = some u2 := by go_simp
theorem MSt.shed2 {w V X Y : World} {base : Nat} {x : BX} {b : Buf} {p : Plc} (h : MSt w V X base ((x.m :: x.rs).map (·.1)) (.slice x.ra x.rs.length x.rc) x.rs.length (x.rs.map fun q => hdV q.1) (metLs p (partsB b) (partsB b).length)) (hz : X.heap.size ≤ Y.heap.size) (hb : ∀ g t, tyAt X g t → t ≠ 25 → Y.heap[g]? = X.heap[g]?) : ∃ x', bufV (meetB p b) x' = bufV b x ∧ OB Y base x' (meetB p b) := by
  obtain ⟨ess, ho⟩ := h.op
  rw [metLs_end] at ho
  have ho2 := ho.same hz (fun g hg => by
    rcases hg with k | k
    · exact hb g _ k (by decide)
    · exact hb g _ k (by decide))
  obtain ⟨x', h1, h2⟩ := OB_again (b := b) ho2 (own_same h.hds (fun g hg => hb g _ (own_ty h.hds hg) (by decide)))
  exact ⟨x', h1, h2⟩
theorem three_same {X : World} {B : Nat} (hB : tyAt X B 25) (u0 u1 u2 : Value) : ∀ g t, tyAt X g t → t ≠ 25 → (((X.setCell ⟨B, 0, none⟩ u0).setCell ⟨B, 1, none⟩ u1).setCell ⟨B, 2, none⟩ u2).heap[g]? = X.heap[g]? := fun g t hg ht => set3_other _ _ _ _ _ _ (tyAt_apart hg hB ht)
theorem three_put {X : World} {B D : Nat} {q : Obj} (hB : tyAt X B 25) (hD : X.heap[D]? = some q) (hq : q.isCells = false) (u0 u1 u2 : Value) (o : Obj) : ∀ g t, tyAt X g t → t ≠ 25 → ((((X.setCell ⟨B, 0, none⟩ u0).setCell ⟨B, 1, none⟩ u1).setCell ⟨B, 2, none⟩ u2).putObj D o).heap[g]? = X.heap[g]? := fun g t hg ht => by
  have hne : g ≠ D := fun e => by
    obtain ⟨c, f, h⟩ := hg
    rw [e, hD] at h
    injection h with h
    rw [h] at hq
    cases hq
  exact (World.putObj_heap_other (by omega)).trans (three_same hB u0 u1 u2 g t hg ht)
end Go.Proofs.Ytnfknkihiapgiaa.bf
