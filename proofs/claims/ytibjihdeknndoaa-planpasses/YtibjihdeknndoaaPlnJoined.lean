/- slices.Concat of two lists of numbers, joined, typesRight; the document's Types. -/
import Derived.Test.YtibjihdeknndoaaPlnConcat
import Derived.Lib.AppendZerosOnto
import Derived.OwnWalk
namespace Go.Proofs.Ytibjihdeknndoaa.pl
open Go.ChangeShapes Go.WideShapes Go.ChangeAt Go.RowKit
open vl
set_option linter.unusedVariables false
set_option linter.unusedSimpArgs false
theorem Try.info3 : (Try.prog.info? 3).map (fun i => (i.zero, i.size, i.bytes)) = some (some (.int .i64 0), 1, 8) := by kernel_rfl
def intV (n : Int) : Value := .int .i64 n
/-- v is a slice of one's own that holds these numbers -/
def ownI (w : World) (base : Nat) (v : Value) (l : List Int) : Prop := w.ownsRow base 3 1 v l.length (l.map intV)
theorem own_lt2 {w : World} {base : Nat} {e : TypeId} {size : Nat} {v : Value} {n : Nat} {xs : List Value} (h : w.ownsRow base e size v n xs) {g : Nat} (hg : v.ownBlock = some g) : base ≤ g ∧ g < w.heap.size := World.ownsRow.lt h g hg
theorem own_stay {w w' : World} {base : Nat} {e : TypeId} {size : Nat} {v : Value} {n : Nat} {xs : List Value} (h : w.ownsRow base e size v n xs) (hb : Below w.heap.size w w') : w'.ownsRow base e size v n xs := by
  refine ⟨h.1, ?_⟩
  rcases h.2 with h0 | ⟨g, cap, cur, hv, h1, hg, h2⟩
  · exact .inl h0
  · have hlt : g < w.heap.size := by
      rcases Nat.lt_or_ge g w.heap.size with hlt | hge
      · exact hlt
      · rw [Array.getElem?_eq_none hge] at hg; cases hg
    exact .inr ⟨g, cap, cur, hv, h1, by rw [hb.block g hlt]; exact hg, h2⟩
theorem add_off (b off j : Nat) : (⟨b, off, none⟩ : Addr).add j = ⟨b, off + j, none⟩ := by unfold Addr.add; split <;> simp_all
theorem own_form {w : World} {base : Nat} {e : TypeId} {size : Nat} {v : Value} {n : Nat} {xs : List Value} (h : w.ownsRow base e size v n xs) : ∃ ad cap, v = .slice ad n cap ∧ (0 < n → ∃ g, ad = some ⟨g, 0, none⟩) := by
  rcases h.2 with ⟨rfl, h0⟩ | ⟨g, cap, cur, rfl, _⟩
  · exact ⟨none, 0, by rw [h0], fun h => absurd h0 (by omega)⟩
  · exact ⟨_, _, rfl, fun _ => ⟨g, rfl⟩⟩
theorem ownI_at {w : World} {base : Nat} {ad : Option Addr} {n cap : Nat} {l : List Int} (h : ownI w base (.slice ad n cap) l) : intsAt w ad l ∧ n = l.length := by
  obtain ⟨ad', cap', hv, hg⟩ := own_form h
  injection hv with ha hn hc
  subst ha hc
  refine ⟨fun i hi => ?_, hn⟩
  obtain ⟨g, rfl⟩ := hg (by omega)
  have hc := World.ownsRow.cells h (g := g) rfl i (intV (l.getD i 0)) (by simp [List.getElem?_map, List.getD_eq_getElem?_getD, hi])
  rw [add_off] at hc
  exact ⟨g, 0, rfl, hc⟩

theorem zeroCells_len (v : Value) (h : v.cells.size = 1) (n : Nat) : (Builtin.zeroCells v.cells n).size = n := by
  simp [Builtin.zeroCells, h]
set_option maxRecDepth 10000 in
set_option maxHeartbeats 2000000 in
theorem grow_nil (n : Nat) (w : World) (hn : n ≤ 1000) :
    Calls Try.prog 74 #[.slice none 0 0, .int .i64 n] w fun e w' => (∃ v, e = .returned v ∧ ownI w' w.heap.size v []) ∧ Below w.heap.size w w' := by
  obtain ⟨i0, hi, hz0, hz1, hz2⟩ := info_parts Try.info3
  by_cases h0 : n = 0
  · subst h0
    go_enter Try.func74, Try.ntmps74
    go_wp2
    go_ret
    exact ⟨⟨_, rfl, World.ownsRow_nil _ _ _ _⟩, Below.refl _ _⟩
  · have hrz : ∀ ty, (Builtin.append_ #[22, 3] ty #[.slice none 0 0, .int .i64 (n : Int)]).run Try.prog w =
        .ok (.slice (some ⟨w.heap.size, 0, none⟩) n (grownCap w n 0 3)) (w.drew.alloc (.cells (Builtin.zeroCells (Value.int .i64 0).cells n ++ Builtin.zeroCells (Value.int .i64 0).cells (grownCap w n 0 3 - n)) 3)) := fun ty => by
      have h := Lib.run_append_grow_zeros w 22 3 ty 3 i0 (.int .i64 0) .i64 .i64 Try.underlying22 Try.underlying3 hi hz0 none 0 0 [] (run_firstCells_none w.drew i0.size 0 0 0) n (by omega) (by omega) (by omega) (by omega) (by rw [hz2]; omega) (growslice_fits (by omega) (by rw [hz2]; omega))
      simpa using h
    have hG1 : n ≤ grownCap w n 0 3 := grownCap_ge w _ _ _
    have hG2 : grownCap w n 0 3 ≤ maxLen := grownCap_le_maxLen w n 0 3 (by unfold maxLen; omega)
    obtain ⟨G, hG⟩ : ∃ G, G = grownCap w n 0 3 := ⟨_, rfl⟩
    rw [← hG] at hrz hG1 hG2
    have hsz : (Builtin.zeroCells (Value.int .i64 0).cells n ++ Builtin.zeroCells (Value.int .i64 0).cells (G - n)).size = G * 1 := by
      rw [Array.size_append, zeroCells_len _ rfl, zeroCells_len _ rfl]; omega
    obtain ⟨cur, hcur⟩ : ∃ c, Builtin.zeroCells (Value.int .i64 0).cells n ++ Builtin.zeroCells (Value.int .i64 0).cells (G - n) = c := ⟨_, rfl⟩
    rw [hcur] at hrz hsz
    have HO : Hid (ownI (w.drew.alloc (.cells cur 3)) w.heap.size (.slice (some ⟨w.heap.size, 0, none⟩) 0 G) []) := World.ownsRow_made (base := w.heap.size) (e := 3) (size := 1) w.drew cur G (Nat.le_refl _) hG2 hsz
    have hp : 0 < (n : Int) := by omega
    unfold maxLen at hG2
    clear hcur hG hi hz0 hz1 hz2
    go_enter Try.func74, Try.ntmps74
    go_wp2_with (at_builtin; refine Lib.wpList_append_run _ rfl _ _ _ _ rfl _ _ rfl rfl _ _ (hrz _) ?_)
    go_ret
    exact ⟨⟨_, rfl, HO.out⟩, ((Below.refl _ _).drew).alloc (Nat.le_refl _) _⟩

theorem ints_one (l : List Int) : ∀ u ∈ l.map intV, u.oneCell' = true := by
  intro u hu
  obtain ⟨n, _, rfl⟩ := List.mem_map.1 hu
  rfl
theorem ints_cells {w : World} {b off : Nat} {l : List Int} (h : intsAt w (some ⟨b, off, none⟩) l) : ∀ j u, (l.map intV)[j]? = some u → w.cell? ((⟨b, off, none⟩ : Addr).add j) = some u := by
  intro j u hu
  rw [List.getElem?_map] at hu
  obtain ⟨n, hn, rfl⟩ := Option.map_eq_some_iff.1 hu
  obtain ⟨hj, hjn⟩ := List.getElem?_eq_some_iff.1 hn
  obtain ⟨b', o', e, x⟩ := h j hj
  cases e
  rw [add_off, x]
  simp [List.getD_eq_getElem?_getD, hn, intV]

set_option maxRecDepth 10000 in
set_option maxHeartbeats 4000000 in
theorem concat_any (g : Nat) (a1 a2 : Option Addr) (c1 c2 : Nat) (l1 l2 : List Int) (w : World) (n1 : 0 < l1.length) (n2 : 0 < l2.length) (m1 : l1.length ≤ 400) (m2 : l2.length ≤ 400) (h1 : intsAt w a1 l1) (h2 : intsAt w a2 l2)
    (e1 : w.cell? ⟨g, 0, none⟩ = some (.slice a1 l1.length c1)) (e2 : w.cell? ⟨g, 1, none⟩ = some (.slice a2 l2.length c2)) :
    Calls Try.prog 55 #[.slice (some ⟨g, 0, none⟩) 2 2] w fun e w' => (∃ ad cap, e = .returned (.slice ad (l1 ++ l2).length cap) ∧ ownI w' w.heap.size (.slice ad (l1 ++ l2).length cap) (l1 ++ l2)) ∧ Below w.heap.size w w' := by
  obtain ⟨i0, hi, hz0, hz1, hz2⟩ := info_parts Try.info3
  have HI : Hid (Try.prog.info? 3 = some i0 ∧ i0.zero = some (.int .i64 0) ∧ i0.size = 1 ∧ i0.bytes = 8) := ⟨hi, hz0, hz1, hz2⟩
  clear hi hz0 hz1 hz2
  obtain ⟨b1, o1, rfl, _⟩ := h1 0 n1
  obtain ⟨b2, o2, rfl, _⟩ := h2 0 n2
  have HC1 : Hid (∀ w', Below w.heap.size w w' → ∀ j u, (l1.map intV)[j]? = some u → w'.cell? ((⟨b1, o1, none⟩ : Addr).add j) = some u) := fun w' hb => ints_cells (intsAt_below h1 hb)
  have HC2 : Hid (∀ w', Below w.heap.size w w' → ∀ j u, (l2.map intV)[j]? = some u → w'.cell? ((⟨b2, o2, none⟩ : Addr).add j) = some u) := fun w' hb => ints_cells (intsAt_below h2 hb)
  have hp1 : Hid ((l1.map intV).length = l1.length) := List.length_map ..
  have hp2 : Hid ((l2.map intV).length = l2.length) := List.length_map ..
  clear h1 h2
  obtain ⟨k1, hk1⟩ : ∃ n, l1.length = n := ⟨_, rfl⟩
  obtain ⟨k2, hk2⟩ : ∃ n, l2.length = n := ⟨_, rfl⟩
  have HK1 : Hid (l1.length = k1) := hk1
  have HK2 : Hid (l2.length = k2) := hk2
  rw [hk1] at n1 m1 e1 hp1
  rw [hk2] at n2 m2 e2 hp2
  rw [List.length_append, hk1, hk2]
  clear hk1 hk2
  have HG : Hid (∀ w1, Calls Try.prog 74 #[.slice none 0 0, .int .i64 ((k1 : Int) + k2)] w1 fun e w' => (∃ v, e = .returned v ∧ ownI w' w1.heap.size v []) ∧ Below w1.heap.size w1 w') := fun w1 => by
    have h := grow_nil (k1 + k2) w1 (by omega)
    rwa [Int.natCast_add] at h
  go_enter Try.func55, Try.ntmps55
  go_wp2
  go_loop [3, 11] (fun s i => (i = .int .i64 0 ∧ s = .int .i64 0) ∨ (i = .int .i64 1 ∧ s = .int .i64 k1) ∨ (i = .int .i64 2 ∧ s = .int .i64 ((k1 : Int) + k2))) (fun _ i => 2 - (intOf i).toNat)
  case atStart => exact .inl ⟨rfl, rfl⟩
  case round =>
    rcases hrel with ⟨rfl, rfl⟩ | ⟨rfl, rfl⟩ | ⟨rfl, rfl⟩
    · go_wp2
      go_round
      case rel => exact .inr (.inl ⟨rfl, rfl⟩)
      case measure => simp [intOf]
    · go_wp2
      go_round
      case rel => exact .inr (.inr ⟨rfl, rfl⟩)
      case measure => simp [intOf]
    · go_wp2_with fail
      refine (HG.out _).mono ?_
      rintro e w1 ⟨⟨v, rfl, hown⟩, hb1⟩
      have f1 := cell_later hb1 e1
      have f2 := cell_later hb1 e2
      have HO : Hid (ownI w1 w.heap.size v []) := hown
      clear hown
      go_wp2
      go_loopw [6, 27] (fun x i wr => ∃ l : List Int, ((i = .int .i64 0 ∧ l = []) ∨ (i = .int .i64 1 ∧ l = l1) ∨ (i = .int .i64 2 ∧ l = l1 ++ l2)) ∧ ownI wr w.heap.size x l ∧ Below w.heap.size w wr) (fun _ i _ => 2 - (intOf i).toNat)
      case atStart => exact ⟨[], .inl ⟨rfl, rfl⟩, HO.out, hb1⟩
      case round =>
        obtain ⟨l, hl, hol, hbl⟩ := hrel
        have g1 := cell_later hbl e1
        have g2 := cell_later hbl e2
        have HOL : Hid (ownI wr w.heap.size u6 l) := hol
        have hsz := hbl.size
        clear hol f1 f2 hb1 HO
        have hl' : (u27 = .int .i64 0 ∧ [] = l) ∨ (u27 = .int .i64 1 ∧ l1 = l) ∨ (u27 = .int .i64 2 ∧ l1 ++ l2 = l) := by
          rcases hl with ⟨h1, h2⟩ | ⟨h1, h2⟩ | ⟨h1, h2⟩
          · exact .inl ⟨h1, h2.symm⟩
          · exact .inr (.inl ⟨h1, h2.symm⟩)
          · exact .inr (.inr ⟨h1, h2.symm⟩)
        clear hl
        rcases hl' with ⟨rfl, rfl⟩ | ⟨rfl, rfl⟩ | ⟨rfl, rfl⟩
        · go_wp2_with (at_builtin; refine wpList_append_own _ rfl (.tmp 31) (.tmp 32) 22 rfl w.heap.size 3 i0 (.int .i64 0) 1 8 Try.underlying22 HI.out.1 HI.out.2.1 HI.out.2.2.1 HI.out.2.2.2 rfl (by decide) _ _ _ rfl HOL.out ⟨b1, o1, none⟩ k1 c1 (l1.map intV) rfl (by rw [hp1.out, Nat.mul_one]) (HC1.out _ hbl) (ints_one l1) (by unfold maxLen; (simp only [List.length_nil]; omega)) (by (simp only [List.length_nil]; omega)) hsz ?_; intro v2 w3 hown3 hgrow3 hnil3)
          have HN : Hid (ownI w3 w.heap.size v2 (l1)) := by
            show w3.ownsRow _ _ _ _ (l1).length ((l1).map intV)
            simpa [HK1.out] using hown3
          obtain ⟨ad, cp, hv, hg⟩ := own_form hown3
          subst hv
          go_roundw
          case rel => exact ⟨l1, .inr (.inl ⟨rfl, rfl⟩), HN.out, hbl.grown hgrow3 hsz (fun b hb => (World.ownsRow.lt HOL.out b hb).1)⟩
          case measure => simp [intOf]
        · go_wp2_with (at_builtin; refine wpList_append_own _ rfl (.tmp 31) (.tmp 32) 22 rfl w.heap.size 3 i0 (.int .i64 0) 1 8 Try.underlying22 HI.out.1 HI.out.2.1 HI.out.2.2.1 HI.out.2.2.2 rfl (by decide) _ _ _ rfl HOL.out ⟨b2, o2, none⟩ k2 c2 (l2.map intV) rfl (by rw [hp2.out, Nat.mul_one]) (HC2.out _ hbl) (ints_one l2) (by unfold maxLen; (rw [HK1.out]; omega)) (by (rw [HK1.out]; omega)) hsz ?_; intro v2 w3 hown3 hgrow3 hnil3)
          have HN : Hid (ownI w3 w.heap.size v2 (l1 ++ l2)) := by
            show w3.ownsRow _ _ _ _ (l1 ++ l2).length ((l1 ++ l2).map intV)
            rw [List.length_append, List.map_append, HK2.out]; exact hown3
          obtain ⟨ad, cp, hv, hg⟩ := own_form hown3
          subst hv
          go_roundw
          case rel => exact ⟨l1 ++ l2, .inr (.inr ⟨rfl, rfl⟩), HN.out, hbl.grown hgrow3 hsz (fun b hb => (World.ownsRow.lt HOL.out b hb).1)⟩
          case measure => simp [intOf]
        · obtain ⟨ad, cp, hv, hg⟩ := own_form HOL.out
          have hll : (l1 ++ l2).length = k1 + k2 := by rw [List.length_append, HK1.out, HK2.out]
          rw [hll] at hv
          subst hv
          go_wp2
          go_ret
          exact ⟨⟨ad, cp, rfl, HOL.out⟩, hbl⟩

set_option maxHeartbeats 1000000 in
theorem joined_any (p : Pln) (x : PA) (w : World) (hp : planAt w p x) (n1 : 0 < p.left.length) (n2 : 0 < p.right.length) (m1 : p.left.length ≤ 400) (m2 : p.right.length ≤ 400) :
    Calls Try.prog 23 #[planV p x] w fun e w' => (∃ ad cap, e = .returned (.slice ad (cols p).length cap) ∧ ownI w' w.heap.size (.slice ad (cols p).length cap) (cols p)) ∧ Below w.heap.size w w' := by
  have K : Hid (∀ g w1, Below w.heap.size w w1 → w1.cell? ⟨g, 0, none⟩ = some (.slice x.l p.left.length x.lc) → w1.cell? ⟨g, 1, none⟩ = some (.slice x.r p.right.length x.rc) →
      Calls Try.prog 55 #[.slice (some ⟨g, 0, none⟩) 2 2] w1 fun e w' => (∃ ad cap, e = .returned (.slice ad (cols p).length cap) ∧ ownI w' w1.heap.size (.slice ad (cols p).length cap) (cols p)) ∧ Below w1.heap.size w1 w') :=
    fun g w1 hb e1 e2 => concat_any g x.l x.r x.lc x.rc p.left p.right w1 n1 n2 m1 m2 (intsAt_below hp.l hb) (intsAt_below hp.r hb) e1 e2
  obtain ⟨cn, hcn⟩ : ∃ z, (cols p).length = z := ⟨_, rfl⟩
  rw [hcn] at K ⊢
  clear hcn
  obtain ⟨cs, hcs⟩ : ∃ z, cols p = z := ⟨_, rfl⟩
  rw [hcs] at K ⊢
  clear hcs hp n1 n2 m1 m2
  obtain ⟨kind, mode, low, high, size, limit, left, right, lkeys, rkeys, grouped, group, aggs⟩ := p
  obtain ⟨l, lc, r, rc, lk, lkc, rk, rkc, g, gc, a, ac⟩ := x
  unfold planV
  dsimp only at K ⊢
  obtain ⟨n6, h6⟩ : ∃ n, left.length = n := ⟨_, rfl⟩
  obtain ⟨n7, h7⟩ : ∃ n, right.length = n := ⟨_, rfl⟩
  rw [h6, h7] at K
  rw [h6, h7]
  clear h6 h7
  go_enter Try.func23, Try.ntmps23
  go_wp2_with (go_at_call 55; refine (K.out _ _ (((Below.refl _ _).alloc (Nat.le_refl _) _).alloc (by simp) _) (by go_simp) (by go_simp)).mono ?_; rintro e w1 ⟨⟨ad, cap, rfl, ho⟩, hb1⟩)
  go_ret
  exact ⟨⟨ad, cap, rfl, ⟨ho.1, ho.2.imp id (fun ⟨g, c, cur, h1, h2, h3⟩ => ⟨g, c, cur, h1, by simp at h2; omega, h3⟩)⟩⟩, (((Below.refl _ _).alloc (Nat.le_refl _) _).alloc (by simp) _).trans (hb1.mono (by simp; omega))⟩
theorem typ1_any (i c : Int) (w : World) :
    Calls Try.prog 65 #[.int .i64 i, .int .i64 c] w fun e w' => e = .returned (.bool (betw c 1 3)) ∧ Below w.heap.size w w' := by
  go_enter Try.func65, Try.ntmps65
  go_wp2_with (go_at_call 58; refine (between_any _ _ _ _).mono ?_; rintro e w' ⟨rfl, hw⟩; subst hw)
  go_ret
  exact ⟨rfl, Below.refl _ _⟩
theorem types_iff (p : Pln) : decide (typesOk p) = allB (cols p).length (fun i => betw ((cols p).getD i 0) 1 3) := by
  refine (dec_bool ?_).symm
  unfold typesOk
  rw [allB_iff]
  simp only [betw_iff]
  exact all_getD (Q := fun c : Int => 1 ≤ c ∧ c ≤ 3)
set_option maxHeartbeats 1000000 in
theorem typesRight_any (p : Pln) (x : PA) (w : World) (hp : planAt w p x) (n1 : 0 < p.left.length) (n2 : 0 < p.right.length) (m1 : p.left.length ≤ 400) (m2 : p.right.length ≤ 400) :
    Calls Try.prog 37 #[planV p x] w fun e w' => e = .returned (.bool (decide (typesOk p))) ∧ Below w.heap.size w w' := by
  have K : Hid (∀ w1, Below w.heap.size w w1 → Calls Try.prog 23 #[planV p x] w1 fun e w' => (∃ ad cap, e = .returned (.slice ad (cols p).length cap) ∧ ownI w' w1.heap.size (.slice ad (cols p).length cap) (cols p)) ∧ Below w1.heap.size w1 w') :=
    fun w1 hb => joined_any p x w1 (planAt_below hp hb) n1 n2 m1 m2
  have hcl : (cols p).length ≤ 800 := by unfold cols; rw [List.length_append]; omega
  have HE : Hid (∀ ad cap w1, intsAt w1 ad (cols p) → Calls Try.prog 64 #[.slice ad (cols p).length cap, .func (.func 65) #[] #[]] w1 fun e w' => e = .returned (.bool (decide (typesOk p))) ∧ Below w1.heap.size w1 w') := by
    intro ad cap w1 hi
    rw [types_iff]
    exact everyInt_any 65 (enters_of Try.func65 (by kernel_rfl) rfl) #[] (fun i => betw ((cols p).getD i 0) 1 3) ad cap (cols p) w1 (by omega) hi (fun i w2 _ _ => typ1_any i _ w2)
  obtain ⟨tb, htb⟩ : ∃ z, decide (typesOk p) = z := ⟨_, rfl⟩
  rw [htb] at HE ⊢
  obtain ⟨cn, hcn⟩ : ∃ z, (cols p).length = z := ⟨_, rfl⟩
  rw [hcn] at K HE
  obtain ⟨cs, hcs⟩ : ∃ z, cols p = z := ⟨_, rfl⟩
  rw [hcs] at K HE
  clear hcs hcl hcn htb hp n1 n2 m1 m2
  obtain ⟨kind, mode, low, high, size, limit, left, right, lkeys, rkeys, grouped, group, aggs⟩ := p
  obtain ⟨l, lc, r, rc, lk, lkc, rk, rkc, g, gc, a, ac⟩ := x
  unfold planV at K ⊢
  dsimp only at K ⊢
  go_enter Try.func37, Try.ntmps37
  go_wp2_with (first
    | (go_at_call 23; refine (K.out _ ((Below.refl _ _).alloc (Nat.le_refl _) _)).mono ?_; rintro e w1 ⟨⟨ad, cap, rfl, ho⟩, hb1⟩; have hba := ((Below.refl _ _).alloc (Nat.le_refl _) _).trans (hb1.mono (by simp)))
    | (go_at_call 64; refine (HE.out _ _ _ (ownI_at ho).1).mono ?_; rintro e w2 ⟨rfl, hb2⟩))
  go_ret
  exact ⟨rfl, hba.trans (hb2.mono hba.size)⟩
end Go.Proofs.Ytibjihdeknndoaa.pl
