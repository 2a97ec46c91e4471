/- BufferAlike, walked. -/
import Derived.Test.YtnfknkihiapgiaaBufBegun
import Derived.Test.YtnfknkihiapgiaaBufSame
import Derived.Test.YtnfknkihiapgiaaBufOpen
import Derived.Deep.RegionLaw
import Derived.Deep.DeepCutAuto
namespace Go.Proofs.Ytnfknkihiapgiaa.bf
open Go.ChangeShapes Go.WideShapes Go.ChangeAt Go.RowKit
open vl
set_option linter.unusedVariables false
set_option linter.unusedSimpArgs false
attribute [local go_sem] Oper.semAt_some
def limN (k : Int) : Int := if betw k 1 64 = true then k else 0
def newE (k : Int) : Int := if betw k 1 64 = true then 0 else 3
theorem new_uni (k : Int) (w : World) : Calls Try.prog 7 #[.int .i64 k] w fun e w' => e = .returned (.tuple #[.agg #[.int .i64 (limN k), .slice none 0 0, .slice none 0 0], .int .i64 (newE k)]) ∧ Below w.heap.size w w' := by
  unfold limN newE
  cases h : betw k 1 64 with
  | false => exact new_bad k w h
  | true => exact new_ok k w h
/-- what both buffers are, and where they lie -/
structure Both (N : Nat) (w W : World) (one two : Int) (BA BB : Nat) (A B : Buf) (xa xb : BX) : Prop where
  ia : IsB W N xa A
  ib : IsB W N xb B
  la : A.lim = one
  lb : B.lim = two
  pm : (entsB A).Perm (entsB B)
  ba : BoxB W BA A xa
  bb : BoxB W BB B xb
  bl : Below N w W
theorem Both.below {N : Nat} {w W W' : World} {one two : Int} {BA BB : Nat} {A B : Buf} {xa xb : BX} (h : Both N w W one two BA BB A B xa xb) (hN : N ≤ W.heap.size) (hb : Below W.heap.size W W') : Both N w W' one two BA BB A B xa xb :=
  ⟨h.ia.below hb, h.ib.below hb, h.la, h.lb, h.pm, h.ba.below hb, h.bb.below hb, h.bl.trans (hb.mono hN)⟩
theorem below_three {N : Nat} {w W : World} {B : Nat} (h : Below N w W) (hB : N ≤ B) (u0 u1 u2 : Value) : Below N w (((W.setCell ⟨B, 0, none⟩ u0).setCell ⟨B, 1, none⟩ u1).setCell ⟨B, 2, none⟩ u2) := ((h.setCell hB _).setCell hB _).setCell hB _
theorem Both.set_a {N : Nat} {w W : World} {one two : Int} {BA BB : Nat} {A B b' : Buf} {xa xb x' : BX} (h : Both N w W one two BA BB A B xa xb) (hne : BA ≠ BB) (hN : N ≤ BA) (hi : IsB W N x' b') (hl : b'.lim = one) (hp : (entsB b').Perm (entsB B)) :
    Both N w (((W.setCell ⟨BA, 0, none⟩ (.int .i64 b'.lim)).setCell ⟨BA, 1, none⟩ (hdV x'.m.1)).setCell ⟨BA, 2, none⟩ (.slice x'.ra x'.rs.length x'.rc)) one two BA BB b' B x' xb :=
  ⟨hi.set3 h.ba.ty _ _ _, h.ib.set3 h.ba.ty _ _ _, hl, h.lb, hp, h.ba.set, h.bb.other (fun e => hne e.symm) _ _ _, below_three h.bl hN _ _ _⟩
/-- one variable is written, whatever the entries of the other are -/
structure Half (N : Nat) (w W : World) (lim : Int) (B : Nat) (b : Buf) (x : BX) : Prop where
  i : IsB W N x b
  l : b.lim = lim
  b : BoxB W B b x
theorem Both.mk2 {N : Nat} {w W : World} {one two : Int} {BA BB : Nat} {A B : Buf} {xa xb : BX} (h1 : Half N w W one BA A xa) (h2 : Half N w W two BB B xb) (hp : (entsB A).Perm (entsB B)) (hb : Below N w W) : Both N w W one two BA BB A B xa xb := ⟨h1.i, h2.i, h1.l, h2.l, hp, h1.b, h2.b, hb⟩
theorem Half.other {N : Nat} {w W : World} {lim : Int} {B C : Nat} {b c : Buf} {x z : BX} (h : Half N w W lim B b x) (hc : BoxB W C c z) (hne : B ≠ C) (u0 u1 u2 : Value) : Half N w (((W.setCell ⟨C, 0, none⟩ u0).setCell ⟨C, 1, none⟩ u1).setCell ⟨C, 2, none⟩ u2) lim B b x := ⟨h.i.set3 hc.ty _ _ _, h.l, h.b.other hne _ _ _⟩
theorem Half.below {N : Nat} {w W W' : World} {lim : Int} {B : Nat} {b : Buf} {x : BX} (h : Half N w W lim B b x) (hb : Below W.heap.size W W') : Half N w W' lim B b x := ⟨h.i.below hb, h.l, h.b.below hb⟩
theorem Half.put {N : Nat} {w W : World} {lim : Int} {B : Nat} {c b' : Buf} {z x' : BX} (hc : BoxB W B c z) (hi : IsB W N x' b') (hl : b'.lim = lim) :
    Half N w (((W.setCell ⟨B, 0, none⟩ (.int .i64 b'.lim)).setCell ⟨B, 1, none⟩ (hdV x'.m.1)).setCell ⟨B, 2, none⟩ (.slice x'.ra x'.rs.length x'.rc)) lim B b' x' := ⟨hi.set3 hc.ty _ _ _, hl, hc.set⟩
theorem two_set {N : Nat} {w W : World} {one two : Int} {BA BB X Y : Nat} {A B b' c' bx by1 : Buf} {xa xb x' z' xx xy : BX} (h : Both N w W one two BA BB A B xa xb) (hne : BA ≠ BB) (h1 : N ≤ BA) (h2 : N ≤ BB) (hi : IsB W N x' b') (hl : b'.lim = one) (hj : IsB W N z' c') (hm : c'.lim = two) (hp : (entsB b').Perm (entsB c')) (hX : BoxB W X bx xx) (hY : BoxB W Y by1 xy) (nXA : X ≠ BA) (nXB : X ≠ BB) (nYA : Y ≠ BA) (nYB : Y ≠ BB) :
    ∃ (A' B' : Buf) (xa' xb' : BX), Both N w (((((((W.setCell ⟨BA, 0, none⟩ (.int .i64 b'.lim)).setCell ⟨BA, 1, none⟩ (hdV x'.m.1)).setCell ⟨BA, 2, none⟩ (.slice x'.ra x'.rs.length x'.rc)).setCell ⟨BB, 0, none⟩ (.int .i64 c'.lim)).setCell ⟨BB, 1, none⟩ (hdV z'.m.1)).setCell ⟨BB, 2, none⟩ (.slice z'.ra z'.rs.length z'.rc))) one two BA BB A' B' xa' xb' ∧ (∃ b x, BoxB (((((((W.setCell ⟨BA, 0, none⟩ (.int .i64 b'.lim)).setCell ⟨BA, 1, none⟩ (hdV x'.m.1)).setCell ⟨BA, 2, none⟩ (.slice x'.ra x'.rs.length x'.rc)).setCell ⟨BB, 0, none⟩ (.int .i64 c'.lim)).setCell ⟨BB, 1, none⟩ (hdV z'.m.1)).setCell ⟨BB, 2, none⟩ (.slice z'.ra z'.rs.length z'.rc))) X b x) ∧ ∃ b x, BoxB (((((((W.setCell ⟨BA, 0, none⟩ (.int .i64 b'.lim)).setCell ⟨BA, 1, none⟩ (hdV x'.m.1)).setCell ⟨BA, 2, none⟩ (.slice x'.ra x'.rs.length x'.rc)).setCell ⟨BB, 0, none⟩ (.int .i64 c'.lim)).setCell ⟨BB, 1, none⟩ (hdV z'.m.1)).setCell ⟨BB, 2, none⟩ (.slice z'.ra z'.rs.length z'.rc))) Y b x := by
  have p1 : Half N w _ one BA b' x' := Half.put h.ba hi hl
  have p2 := h.bb.other (fun e => hne e.symm) (.int .i64 b'.lim) (hdV x'.m.1) (.slice x'.ra x'.rs.length x'.rc)
  have p3 := hj.set3 h.ba.ty (.int .i64 b'.lim) (hdV x'.m.1) (.slice x'.ra x'.rs.length x'.rc)
  exact ⟨b', c', x', z', Both.mk2 (p1.other p2 hne _ _ _) (Half.put p2 p3 hm) hp (below_three (below_three h.bl h1 _ _ _) h2 _ _ _), ⟨bx, xx, (hX.other nXA _ _ _).other nXB _ _ _⟩, ⟨by1, xy, (hY.other nYA _ _ _).other nYB _ _ _⟩⟩
theorem Both.three {N : Nat} {w W : World} {one two : Int} {BA BB C : Nat} {A B c : Buf} {xa xb z : BX} (h : Both N w W one two BA BB A B xa xb) (hc : BoxB W C c z) (h1 : C ≠ BA) (h2 : C ≠ BB) (hN : N ≤ C) (u0 u1 u2 : Value) : Both N w (((W.setCell ⟨C, 0, none⟩ u0).setCell ⟨C, 1, none⟩ u1).setCell ⟨C, 2, none⟩ u2) one two BA BB A B xa xb :=
  ⟨h.ia.set3 hc.ty _ _ _, h.ib.set3 hc.ty _ _ _, h.la, h.lb, h.pm, h.ba.other (fun e => h1 e.symm) _ _ _, h.bb.other (fun e => h2 e.symm) _ _ _, below_three h.bl hN _ _ _⟩
theorem cell_three {W : World} {C b o : Nat} {v : Value} (h : W.cell? ⟨b, o, none⟩ = some v) (hne : b ≠ C) (u0 u1 u2 : Value) : (((W.setCell ⟨C, 0, none⟩ u0).setCell ⟨C, 1, none⟩ u1).setCell ⟨C, 2, none⟩ u2).cell? ⟨b, o, none⟩ = some v :=
  (World.cell?_of_block (a := ⟨b, o, none⟩) (set3_other W C b u0 u1 u2 hne)).trans h
theorem two_drew {N : Nat} {w W : World} {one two : Int} {BA BB X Y : Nat} (hN : N ≤ W.heap.size) (h : ∃ (A' B' : Buf) (xa' xb' : BX), Both N w W one two BA BB A' B' xa' xb' ∧ (∃ b x, BoxB W X b x) ∧ ∃ b x, BoxB W Y b x) :
    ∃ (A' B' : Buf) (xa' xb' : BX), Both N w W.drew one two BA BB A' B' xa' xb' ∧ (∃ b x, BoxB W.drew X b x) ∧ ∃ b x, BoxB W.drew Y b x := by
  obtain ⟨A', B', xa', xb', h1, ⟨b1, x1, h2⟩, ⟨b2, x2, h3⟩⟩ := h
  exact ⟨A', B', xa', xb', h1.below hN (Below.refl _ _).drew, ⟨b1, x1, h2.below (Below.refl _ _).drew⟩, ⟨b2, x2, h3.below (Below.refl _ _).drew⟩⟩
set_option maxRecDepth 100000 in
set_option maxHeartbeats 8000000 in
theorem alike_walk (one two : Int) (a : Option Addr) (cap : Nat) (es : List EM) (l : List Ent) (da : Option Addr) (dc : Nat) (ds : List Int) (w : World) (ha : emsAt w a es) (hel : es.length = l.length) (hl : es.length ≤ 9223372036854775807) (hin : ∀ i, i < l.length → inE w (es.getD i default) (l.getD i default)) (hd : intsAt w da ds) (hdl : ds.length ≤ 9223372036854775807) :
    Calls Try.prog 6 #[.int .i64 one, .int .i64 two, .slice a es.length cap, .slice da ds.length dc] w fun e w' => e = .returned (.bool true) ∧ Below w.heap.size w w' := by
  have KN : Hid (∀ k w1, Calls Try.prog 7 #[.int .i64 k] w1 fun e w' => e = .returned (.tuple #[.agg #[.int .i64 (limN k), .slice none 0 0, .slice none 0 0], .int .i64 (newE k)]) ∧ Below w1.heap.size w1 w') := fun k w1 => new_uni k w1
  have KB : Hid (∀ w1, Calls Try.prog 12 #[] w1 fun e w' => e = .returned (.bool true) ∧ Below w1.heap.size w1 w') := fun w1 => begun_any w1
  have HA : Hid (emsAt w a es) := ha
  have HIN : Hid (∀ i, i < l.length → inE w (es.getD i default) (l.getD i default)) := hin
  have HD : Hid (intsAt w da ds) := hd
  obtain ⟨n, hn⟩ : ∃ n, es.length = n := ⟨_, rfl⟩
  obtain ⟨dn, hdn⟩ : ∃ n, ds.length = n := ⟨_, rfl⟩
  have HN : Hid (es.length = n ∧ l.length = n ∧ ds.length = dn) := ⟨hn, by rw [← hel]; exact hn, hdn⟩
  rw [hn] at hl
  rw [hdn] at hdl
  rw [hn, hdn]
  clear hn hdn ha hel hin hd
  by_cases h1 : betw one 1 64 = true
  case neg =>
    have e1 : newE one = 3 := by unfold newE; rw [if_neg h1]
    go_enter Try.func6, Try.ntmps6
    go_wp2_with fail
    refine (KN.out _ _).mono ?_
    rintro e w1 ⟨rfl, hb1⟩
    rw [e1]
    have hx1 := hb1.alloc hb1.size (.cells #[.int .i64 (limN one), .slice none 0 0, .slice none 0 0] 25)
    go_wp2_with fail
    refine (KN.out _ _).mono ?_
    rintro e w2 ⟨rfl, hb2⟩
    have hbw2 := hx1.trans (hb2.mono hx1.size)
    go_wp2_with fail
    refine (KB.out _).mono ?_
    rintro e w3 ⟨rfl, hb3⟩
    go_wp2
    go_ret
    have hx2 := hbw2.alloc hbw2.size (.cells #[.int .i64 (limN two), .slice none 0 0, .slice none 0 0] 25)
    exact ⟨rfl, hx2.trans (hb3.mono hx2.size)⟩
  have e1 : newE one = 0 := by unfold newE; rw [if_pos h1]
  have l1 : limN one = one := by unfold limN; rw [if_pos h1]
  by_cases h2 : betw two 1 64 = true
  case neg =>
    have e2 : newE two = 3 := by unfold newE; rw [if_neg h2]
    go_enter Try.func6, Try.ntmps6
    go_wp2_with fail
    refine (KN.out _ _).mono ?_
    rintro e w1 ⟨rfl, hb1⟩
    rw [e1, l1]
    have hx1 := hb1.alloc hb1.size (.cells #[.int .i64 one, .slice none 0 0, .slice none 0 0] 25)
    go_wp2_with fail
    refine (KN.out _ _).mono ?_
    rintro e w2 ⟨rfl, hb2⟩
    rw [e2]
    have hbw2 := hx1.trans (hb2.mono hx1.size)
    go_wp2_with fail
    refine (KB.out _).mono ?_
    rintro e w3 ⟨rfl, hb3⟩
    go_wp2
    go_ret
    have hx2 := hbw2.alloc hbw2.size (.cells #[.int .i64 (limN two), .slice none 0 0, .slice none 0 0] 25)
    exact ⟨rfl, hx2.trans (hb3.mono hx2.size)⟩
  have e2 : newE two = 0 := by unfold newE; rw [if_pos h2]
  have l2 : limN two = two := by unfold limN; rw [if_pos h2]
  by_cases h3 : n ≤ 200
  case neg =>
    have h3' : (n : Int) > 200 := by omega
    go_enter Try.func6, Try.ntmps6
    go_wp2_with fail
    refine (KN.out _ _).mono ?_
    rintro e w1 ⟨rfl, hb1⟩
    rw [e1, l1]
    have hx1 := hb1.alloc hb1.size (.cells #[.int .i64 one, .slice none 0 0, .slice none 0 0] 25)
    go_wp2_with fail
    refine (KN.out _ _).mono ?_
    rintro e w2 ⟨rfl, hb2⟩
    rw [e2, l2]
    have hbw2 := hx1.trans (hb2.mono hx1.size)
    go_wp2_with fail
    refine (KB.out _).mono ?_
    rintro e w3 ⟨rfl, hb3⟩
    go_wp2
    go_ret
    have hx2 := hbw2.alloc hbw2.size (.cells #[.int .i64 two, .slice none 0 0, .slice none 0 0] 25)
    exact ⟨rfl, hx2.trans (hb3.mono hx2.size)⟩
  have h3' : ¬ (n : Int) > 200 := by omega
  go_enter Try.func6, Try.ntmps6
  go_wp2_with fail
  refine (KN.out _ _).mono ?_
  rintro e w1 ⟨rfl, hb1⟩
  rw [e1, l1]
  have hx1 := hb1.alloc hb1.size (.cells #[.int .i64 one, .slice none 0 0, .slice none 0 0] 25)
  have hBA := BoxB_new w1 ⟨one, [], []⟩ x0
  go_wp2_with fail
  refine (KN.out _ _).mono ?_
  rintro e w2 ⟨rfl, hb2⟩
  rw [e2, l2]
  have hbw2 := hx1.trans (hb2.mono hx1.size)
  have hx2 := hbw2.alloc hbw2.size (.cells #[.int .i64 two, .slice none 0 0, .slice none 0 0] 25)
  have hBB := BoxB_new w2 ⟨two, [], []⟩ x0
  have hBA2 := (hBA.below hb2).below ((Below.refl _ _).alloc (Nat.le_refl _) (.cells #[.int .i64 two, .slice none 0 0, .slice none 0 0] 25))
  have hne : w1.heap.size < w2.heap.size := (hBA.below hb2).lt
  have hN1 := hb1.size
  have HBO : Hid (Both w.heap.size w (w2.alloc (.cells #[.int .i64 two, .slice none 0 0, .slice none 0 0] 25)) one two w1.heap.size w2.heap.size ⟨one, [], []⟩ ⟨two, [], []⟩ x0 x0) := ⟨IsB_new hx2.size h1, IsB_new hx2.size h2, rfl, rfl, List.Perm.refl _, hBA2, hBB, hx2⟩
  clear hBA hBA2 hBB
  go_wp2
  generalize w2.alloc (.cells #[.int .i64 two, .slice none 0 0, .slice none 0 0] 25) = W0 at *
  obtain ⟨BA, hBAe⟩ : ∃ z, w1.heap.size = z := ⟨_, rfl⟩
  obtain ⟨BB, hBBe⟩ : ∃ z, w2.heap.size = z := ⟨_, rfl⟩
  rw [hBAe] at HBO hne hN1 ⊢
  rw [hBBe] at HBO hne ⊢
  clear hb1 hb2 hx1 hbw2 hBAe hBBe
  go_loopw [13, 14, 15, 16, 17, 18, 19] (fun i _ _ _ _ _ _ wr => ∃ (k : Nat) (A B : Buf) (xa xb : BX), k ≤ n ∧ i = .int .i64 k ∧ Both w.heap.size w wr one two BA BB A B xa xb) (fun i _ _ _ _ _ _ _ => n - (intOf i).toNat)
  case atStart => exact ⟨0, _, _, _, _, Nat.zero_le _, rfl, HBO.out⟩
  case round =>
    obtain ⟨k, A, B, xa, xb, hk, rfl, hbo⟩ := hrel
    have HB : Hid (Both w.heap.size w wr one two BA BB A B xa xb) := hbo
    have hbl := hbo.bl
    have hNr := hbl.size
    by_cases hlt : k < n
    · have hik := HIN.out k (by rw [HN.out.2.1]; exact hlt)
      obtain ⟨eb, eo, ee, x1, x2, x3, x4, x5⟩ := HA.out k (by rw [HN.out.1]; exact hlt)
      subst ee
      have z1 := cell_later hbl x1
      have z2 := cell_later hbl x2
      have z3 := cell_later hbl x3
      have z4 := cell_later hbl x4
      have z5 := cell_later hbl x5
      have KPa : Hid (∀ w1, Below wr.heap.size wr w1 → Calls Try.prog 8 #[bufV A xa, (es.getD k default).val] w1 fun r w' => (∃ b' x', r = .returned (.tuple #[bufV b' x', .int .i64 (putErr A (l.getD k default))]) ∧ (putErr A (l.getD k default) = 0 → IsB w' w.heap.size x' b' ∧ b'.lim = one ∧ (entsB b').Perm (l.getD k default :: entsB A))) ∧ Below w1.heap.size w1 w') := fun w1 hb => by
        refine (put_uni A xa (es.getD k default) (l.getD k default) w.heap.size w1 (HB.out.ia.below hb) ((hik.er.below hbl).below hb) hik.wf hik.wp).mono ?_
        rintro r w' ⟨⟨b', x', h1, h2⟩, h3⟩
        exact ⟨⟨b', x', h1, fun h0 => ⟨(h2 h0).1.mono (Nat.le_trans hNr hb.size), (h2 h0).2.1.trans HB.out.la, (h2 h0).2.2⟩⟩, h3⟩
      have KPb : Hid (∀ w1, Below wr.heap.size wr w1 → Calls Try.prog 8 #[bufV B xb, (es.getD k default).val] w1 fun r w' => (∃ b' x', r = .returned (.tuple #[bufV b' x', .int .i64 (putErr A (l.getD k default))]) ∧ (putErr A (l.getD k default) = 0 → IsB w' w.heap.size x' b' ∧ b'.lim = two ∧ (entsB b').Perm (l.getD k default :: entsB B))) ∧ Below w1.heap.size w1 w') := fun w1 hb => by
        rw [putErr_perm HB.out.pm]
        refine (put_uni B xb (es.getD k default) (l.getD k default) w.heap.size w1 (HB.out.ib.below hb) ((hik.er.below hbl).below hb) hik.wf hik.wp).mono ?_
        rintro r w' ⟨⟨b', x', h1, h2⟩, h3⟩
        exact ⟨⟨b', x', h1, fun h0 => ⟨(h2 h0).1.mono (Nat.le_trans hNr hb.size), (h2 h0).2.1.trans HB.out.lb, (h2 h0).2.2⟩⟩, h3⟩
      obtain ⟨y, hy⟩ : ∃ z, l.getD k default = z := ⟨_, rfl⟩
      rw [hy] at KPa KPb
      obtain ⟨pe, hpe⟩ : ∃ z, putErr A y = z := ⟨_, rfl⟩
      rw [hpe] at KPa KPb
      obtain ⟨⟨ek, et, es1, ⟨r1, r2, r3⟩, em1⟩, hz⟩ : ∃ z, es.getD k default = z := ⟨_, rfl⟩
      rw [hz] at z1 z2 z3 z4 z5 KPa KPb
      unfold EM.val hdV at KPa KPb
      unfold hdV at z4
      dsimp only at z1 z2 z3 z4 z5 KPa KPb
      have a0 := hbo.ba.c0
      have a1 := hbo.ba.c1
      have a2 := hbo.ba.c2
      have b0 := hbo.bb.c0
      have b1 := hbo.bb.c1
      have b2 := hbo.bb.c2
      have fa := hbo.ba.fr
      have fb := hbo.bb.fr
      have lA := hbo.ba.lt
      have lB := hbo.bb.lt
      clear hy hpe hz x1 x2 x3 x4 x5 hik hbo
      obtain ⟨ra, rc, ⟨⟨m1, m2, m3⟩, ml⟩, rs⟩ := xa
      obtain ⟨rb, rd, ⟨⟨q1, q2, q3⟩, ql⟩, rt⟩ := xb
      unfold bufV hdV at KPa KPb
      unfold hdV at a1 b1
      dsimp only at KPa KPb a0 a1 a2 b0 b1 b2
      obtain ⟨na, hna⟩ : ∃ z, rs.length = z := ⟨_, rfl⟩
      obtain ⟨nb, hnb⟩ : ∃ z, rt.length = z := ⟨_, rfl⟩
      rw [hna] at KPa a2
      rw [hnb] at KPb b2
      obtain ⟨la, hla⟩ : ∃ z, A.lim = z := ⟨_, rfl⟩
      obtain ⟨lb, hlb⟩ : ∃ z, B.lim = z := ⟨_, rfl⟩
      rw [hla] at KPa a0
      rw [hlb] at KPb b0
      have i1 : (0 : Int) ≤ (k : Int) := by omega
      have i2 : (k : Int) < (n : Int) := by omega
      have leb : eb < wr.heap.size := World.block_lt_of_cell? _ _ z1
      clear hna hnb hla hlb
      go_upto_region 8 with fail
      go_cut [14, 15] (fun p e wc => ∃ (X : Nat) (b' : Buf) (x' : BX), p = .pointer (some ⟨X, 0, none⟩) ∧ e = .int .i64 pe ∧ wr.heap.size ≤ X ∧ BoxB wc X b' x' ∧ (pe = 0 → IsB wc w.heap.size x' b' ∧ b'.lim = one ∧ (entsB b').Perm (y :: entsB A)) ∧ Below wr.heap.size wr wc)
      case first =>
        have HZ : Hid (BoxB (wr.alloc (.cells #[.int .i64 0, .slice none 0 0, .slice none 0 0] 25)) wr.heap.size ⟨0, [], []⟩ x0) := BoxB_new wr ⟨0, [], []⟩ x0
        go_region_law (go_simp; go_at_call 8; first
          | (refine (KPa.out _ (Below.refl _ _).drew).mono ?_; rintro e w2 ⟨⟨b', x', rfl, hst⟩, hbq0⟩; have hbq : Below wr.heap.size wr w2 := (Below.refl _ _).drew.trans hbq0)
          | (refine (KPa.out _ ((Below.refl _ _).alloc (Nat.le_refl _) _).drew).mono ?_; rintro e w2 ⟨⟨b', x', rfl, hst⟩, hbq0⟩; have hbq : Below wr.heap.size wr w2 := (((Below.refl _ _).alloc (Nat.le_refl _) _).drew).trans (hbq0.mono (by simp)); have HZ2 := HZ.out.below (W' := w2) ((Below.refl _ _).drew.trans hbq0); have u0 := HZ2.c0; have u1 := HZ2.c1; have u2 := HZ2.c2; have uf := HZ2.fr; unfold hdV x0 at u1; unfold x0 at u2; dsimp only at u0 u1 u2; have HZ3 : Hid (BoxB w2 wr.heap.size ⟨0, [], []⟩ x0) := HZ2; clear HZ2))
        all_goals
          go_wp2
          go_meet
          first
            | exact ⟨w2.heap.size, b', x', rfl, rfl, hbq.size, BoxB_new w2 b' x', fun h => ⟨(hst h).1.below ((Below.refl _ _).alloc (Nat.le_refl _) _), (hst h).2⟩, hbq.alloc hbq.size _⟩
            | exact ⟨wr.heap.size, b', x', rfl, rfl, Nat.le_refl _, HZ3.out.set, fun h => ⟨(hst h).1.set3 HZ3.out.ty _ _ _, (hst h).2⟩, ((hbq.setCell (Nat.le_refl _) _).setCell (Nat.le_refl _) _).setCell (Nat.le_refl _) _⟩
      case rest =>
        obtain ⟨X, bx, xx, rfl, rfl, hX, hBX, hxs, hb8⟩ := hcut
        rename World => W8
        have HXS : Hid (pe = 0 → IsB W8 w.heap.size xx bx ∧ bx.lim = one ∧ (entsB bx).Perm (y :: entsB A)) := hxs
        have HBX : Hid (BoxB W8 X bx xx) := hBX
        have b0 := cell_later hb8 b0
        have b1 := cell_later hb8 b1
        have b2 := cell_later hb8 b2
        have z1 := cell_later hb8 z1
        have z2 := cell_later hb8 z2
        have z3 := cell_later hb8 z3
        have z4 := cell_later hb8 z4
        have z5 := cell_later hb8 z5
        have lB8 : BB < W8.heap.size := World.block_lt_of_cell? _ _ b0
        have leb8 : eb < W8.heap.size := World.block_lt_of_cell? _ _ z1
        have hs8 := hb8.size
        clear hBX hxs a0 a1 a2 KPa
        go_upto_region 9 with fail
        go_cut [16, 17] (fun p e wc => ∃ (Y : Nat) (b' : Buf) (x' : BX), p = .pointer (some ⟨Y, 0, none⟩) ∧ e = .int .i64 pe ∧ W8.heap.size ≤ Y ∧ BoxB wc Y b' x' ∧ (pe = 0 → IsB wc w.heap.size x' b' ∧ b'.lim = two ∧ (entsB b').Perm (y :: entsB B)) ∧ Below W8.heap.size W8 wc)
        case first =>
          have HZ : Hid (BoxB (W8.alloc (.cells #[.int .i64 0, .slice none 0 0, .slice none 0 0] 25)) W8.heap.size ⟨0, [], []⟩ x0) := BoxB_new W8 ⟨0, [], []⟩ x0
          go_region_law (go_simp; go_at_call 8; first
            | (refine (KPb.out _ hb8.drew).mono ?_; rintro e w2 ⟨⟨b', x', rfl, hst⟩, hbq0⟩; have hbq : Below W8.heap.size W8 w2 := (Below.refl _ _).drew.trans hbq0)
            | (refine (KPb.out _ (hb8.alloc hb8.size _).drew).mono ?_; rintro e w2 ⟨⟨b', x', rfl, hst⟩, hbq0⟩; have hbq : Below W8.heap.size W8 w2 := (((Below.refl _ _).alloc (Nat.le_refl _) _).drew).trans (hbq0.mono (by simp)); have HZ2 := HZ.out.below (W' := w2) ((Below.refl _ _).drew.trans hbq0); have u0 := HZ2.c0; have u1 := HZ2.c1; have u2 := HZ2.c2; have uf := HZ2.fr; unfold hdV x0 at u1; unfold x0 at u2; dsimp only at u0 u1 u2; have HZ3 : Hid (BoxB w2 W8.heap.size ⟨0, [], []⟩ x0) := HZ2; clear HZ2))
          all_goals
            go_wp2
            go_meet
            first
              | exact ⟨w2.heap.size, b', x', rfl, rfl, hbq.size, BoxB_new w2 b' x', fun h => ⟨(hst h).1.below ((Below.refl _ _).alloc (Nat.le_refl _) _), (hst h).2⟩, hbq.alloc hbq.size _⟩
              | exact ⟨W8.heap.size, b', x', rfl, rfl, Nat.le_refl _, HZ3.out.set, fun h => ⟨(hst h).1.set3 HZ3.out.ty _ _ _, (hst h).2⟩, ((hbq.setCell (Nat.le_refl _) _).setCell (Nat.le_refl _) _).setCell (Nat.le_refl _) _⟩
        case rest =>
          obtain ⟨Y, by1, xy, rfl, rfl, hY, hBY, hys, hb9⟩ := hcut
          rename World => W9
          have hB9 : Both w.heap.size w W9 one two BA BB A B ⟨ra, rc, ((m1, m2, m3), ml), rs⟩ ⟨rb, rd, ((q1, q2, q3), ql), rt⟩ := (HB.out.below hNr hb8).below (by omega) hb9
          have HB9 : Hid (Both w.heap.size w W9 one two BA BB A B ⟨ra, rc, ((m1, m2, m3), ml), rs⟩ ⟨rb, rd, ((q1, q2, q3), ql), rt⟩) := hB9
          have HYS : Hid (pe = 0 → IsB W9 w.heap.size xy by1 ∧ by1.lim = two ∧ (entsB by1).Perm (y :: entsB B)) := hys
          have HXS9 : Hid (pe = 0 → IsB W9 w.heap.size xx bx ∧ bx.lim = one ∧ (entsB bx).Perm (y :: entsB A)) := fun h => ⟨(HXS.out h).1.below hb9, (HXS.out h).2⟩
          have hBX9 := HBX.out.below hb9
          have HBX9 : Hid (BoxB W9 X bx xx) := hBX9
          have HBY9 : Hid (BoxB W9 Y by1 xy) := hBY
          have hs9 := hb9.size
          have lX : X < W8.heap.size := HBX.out.lt
          have hpp : (pe != pe) = false := by simp
          clear HXS HBX hys b0 b1 b2 z1 z2 z3 z4 z5 KPb
          go_upto_if 70 with fail
          go_cut [] (fun wc => ∃ (A' B' : Buf) (xa' xb' : BX), Both w.heap.size w wc one two BA BB A' B' xa' xb' ∧ (∃ b x, BoxB wc X b x) ∧ ∃ b x, BoxB wc Y b x)
          case first =>
            by_cases hp0 : pe = 0
            · subst hp0
              obtain ⟨i1x, i2x, i3x⟩ := HXS9.out rfl
              obtain ⟨i1y, i2y, i3y⟩ := HYS.out rfl
              have c0 := hBX9.c0
              have c1 := hBX9.c1
              have c2 := hBX9.c2
              have d0 := hBY.c0
              have d1 := hBY.c1
              have d2 := hBY.c2
              have g0 := hB9.ba.c0
              have g1 := hB9.ba.c1
              have g2 := hB9.ba.c2
              have gf := hB9.ba.fr
              have k0 := hB9.bb.c0
              have k1 := hB9.bb.c1
              have k2 := hB9.bb.c2
              have kf := hB9.bb.fr
              have nXA : X ≠ BA := by omega
              have nXB : X ≠ BB := by omega
              have nYA : Y ≠ BA := by omega
              have nYB : Y ≠ BB := by omega
              have nAB : BA ≠ BB := by omega
              obtain ⟨ra', rc', ⟨⟨a1, a2, a3⟩, ml'⟩, rs'⟩ := xx
              obtain ⟨rb', rd', ⟨⟨p1, p2, p3⟩, ql'⟩, rt'⟩ := xy
              unfold hdV at c1 d1 g1 k1
              dsimp only at c0 c1 c2 d0 d1 d2 g0 g1 g2 k0 k1 k2
              clear hBX9 hBY hB9
              have HP : Hid ((entsB bx).Perm (entsB by1)) := i3x.trans ((HB9.out.pm.cons y).trans i3y.symm)
              have HIX : Hid (IsB W9 w.heap.size ⟨ra', rc', ((a1, a2, a3), ml'), rs'⟩ bx) := i1x
              have HIY : Hid (IsB W9 w.heap.size ⟨rb', rd', ((p1, p2, p3), ql'), rt'⟩ by1) := i1y
              have HLX : Hid (bx.lim = one) := i2x
              have HLY : Hid (by1.lim = two) := i2y
              clear i1x i1y i2x i2y i3x i3y
              go_wp2
              go_region
              all_goals
                go_wp2
                go_meet
                have h2 := two_set HB9.out nAB hN1 (by omega) HIX.out HLX.out HIY.out HLY.out HP.out HBX9.out HBY9.out nXA nXB nYA nYB
                unfold hdV at h2
                dsimp only at h2
                exact two_drew (by simp [World.setCell]; omega) h2
            · have hp1 : (pe == 0) = false := by simpa using hp0
              clear hp0
              go_wp2
              go_meet
              exact ⟨A, B, _, _, HB9.out, ⟨_, _, HBX9.out⟩, ⟨_, _, HBY9.out⟩⟩
          case rest =>
            obtain ⟨A1, B1, xa1, xb1, hB1, ⟨bX, xX, hX1⟩, ⟨bY, xY, hY1⟩⟩ := hcut
            rename World => WA
            have HB1 : Hid (Both w.heap.size w WA one two BA BB A1 B1 xa1 xb1) := hB1
            have HX1 : Hid (BoxB WA X bX xX) := hX1
            have HY1 : Hid (BoxB WA Y bY xY) := hY1
            have hNA : w.heap.size ≤ WA.heap.size := hB1.bl.size
            have nXA : X ≠ BA := by omega
            have nXB : X ≠ BB := by omega
            have nYA : Y ≠ BA := by omega
            have nYB : Y ≠ BB := by omega
            have nXY : X ≠ Y := by omega
            have nAB : BA ≠ BB := by omega
            clear HB9 HYS HXS9 hBX9 HBX9 HBY9 hB9 hBY hB1 hX1 hY1
            go_upto_if 76 with fail
            go_cut [15, 17] (fun _ _ wc => ∃ (A' B' : Buf) (xa' xb' : BX), Both w.heap.size w wc one two BA BB A' B' xa' xb')
            case first =>
              by_cases hdk : k < dn
              · obtain ⟨db, dof, de, dx⟩ := HD.out k (by rw [HN.out.2.2]; exact hdk)
                subst de
                have dz := cell_later HB1.out.bl dx
                obtain ⟨dv, hdv⟩ : ∃ z, ds.getD k 0 = z := ⟨_, rfl⟩
                rw [hdv] at dz
                have ldb : db < w.heap.size := World.block_lt_of_cell? _ _ dx
                clear dx hdv
                have j1 : (0 : Int) ≤ (k : Int) := by omega
                have j2 : (k : Int) < (dn : Int) := by omega
                have KDa : Hid (∀ w1, Below WA.heap.size WA w1 → Calls Try.prog 22 #[bufV A1 xa1, .int .i64 dv] w1 fun r w' => (∃ x', r = .returned (.tuple #[bufV (keptB (afterT dv) A1) x', .int .i64 0]) ∧ IsB w' w.heap.size x' (keptB (afterT dv) A1)) ∧ Below w1.heap.size w1 w') := fun w1 hb => (drop_uni A1 xa1 dv w.heap.size w1 (HB1.out.ia.below hb)).mono (fun r w' ⟨⟨x', h1, h2⟩, h3⟩ => ⟨⟨x', h1, h2.mono (Nat.le_trans hNA hb.size)⟩, h3⟩)
                have KDb : Hid (∀ w1, IsB w1 w.heap.size xb1 B1 → Calls Try.prog 22 #[bufV B1 xb1, .int .i64 dv] w1 fun r w' => (∃ x', r = .returned (.tuple #[bufV (keptB (afterT dv) B1) x', .int .i64 0]) ∧ IsB w' w1.heap.size x' (keptB (afterT dv) B1)) ∧ Below w1.heap.size w1 w') := fun w1 hb => drop_uni B1 xb1 dv w.heap.size w1 hb
                have KPk : Hid (∀ x w1, IsB w1 w.heap.size x (keptB (afterT dv) B1) → Calls Try.prog 23 #[bufV (keptB (afterT dv) B1) x] w1 fun r w' => (∃ b' x', r = .returned (.tuple #[bufV b' x', .int .i64 0]) ∧ IsB w' w1.heap.size x' b' ∧ b'.lim = (keptB (afterT dv) B1).lim ∧ (entsB b').Perm (entsB (keptB (afterT dv) B1))) ∧ Below w1.heap.size w1 w') := fun x w1 hb => pack_uni (keptB (afterT dv) B1) x w.heap.size w1 hb
                have HPM : Hid ((entsB (keptB (afterT dv) A1)).Perm (entsB (keptB (afterT dv) B1))) := by
                  show List.Perm _ _
                  rw [kept_ents, kept_ents]
                  exact HB1.out.pm.filter _
                have HLA : Hid ((keptB (afterT dv) A1).lim = one) := HB1.out.la
                have HLB : Hid ((keptB (afterT dv) B1).lim = two) := HB1.out.lb
                obtain ⟨KA, hKA⟩ : ∃ z, keptB (afterT dv) A1 = z := ⟨_, rfl⟩
                obtain ⟨KB2, hKB⟩ : ∃ z, keptB (afterT dv) B1 = z := ⟨_, rfl⟩
                rw [hKA] at KDa HPM HLA
                rw [hKB] at KDb KPk HPM HLB
                clear hKA hKB
                have a0 := HB1.out.ba.c0
                have a1 := HB1.out.ba.c1
                have a2 := HB1.out.ba.c2
                have x0' := HX1.out.c0
                have x1' := HX1.out.c1
                have x2' := HX1.out.c2
                have xf := HX1.out.fr
                have lX1 := HX1.out.lt
                have lA1 := HB1.out.ba.lt
                obtain ⟨ra1, rc1, ⟨⟨s1, s2, s3⟩, ml1⟩, rs1⟩ := xa1
                unfold bufV hdV at KDa
                unfold hdV at a1
                dsimp only at KDa a0 a1 a2
                have lD1 : db < WA.heap.size := World.block_lt_of_cell? _ _ dz
                go_upto_region 15 with fail
                go_cut [15] (fun e wc => e = .int .i64 0 ∧ ∃ xd, IsB wc w.heap.size xd KA ∧ BoxB wc X KA xd ∧ BoxB wc Y bY xY ∧ Both w.heap.size w wc one two BA BB A1 B1 ⟨ra1, rc1, ((s1, s2, s3), ml1), rs1⟩ xb1 ∧ wc.cell? ⟨db, dof + k, none⟩ = some (.int .i64 dv))
                case first =>
                  go_region_law (go_simp; go_at_call 22; refine (KDa.out _ (Below.refl _ _).drew).mono ?_; rintro e w2 ⟨⟨xd, rfl, hid⟩, hbd0⟩; have hbd : Below WA.heap.size WA w2 := (Below.refl _ _).drew.trans hbd0; have t0 := cell_later hbd x0'; have t1 := cell_later hbd x1'; have t2 := cell_later hbd x2'; have tf : ∀ j, w2.frozen? ⟨X, j, none⟩ = false := fun j => (hbd.frozen (p := ⟨X, j, none⟩) lX1).trans (xf j))
                  all_goals
                    have hs := (HX1.out.below hbd).set (b' := KA) (x' := xd)
                    unfold hdV at hs
                    go_wp2
                    go_meet
                    exact ⟨rfl, xd, hid.set3 (HX1.out.below hbd).ty _ _ _, hs, (HY1.out.below hbd).other (fun e => nXY e.symm) _ _ _, (HB1.out.below hNA hbd).three (HX1.out.below hbd) nXA nXB (by omega) _ _ _, cell_three (cell_later hbd dz) (by omega) _ _ _⟩
                case rest =>
                  obtain ⟨rfl, xd, hid, hXd, hY2, hB2, dz2⟩ := hcut
                  rename World => WC
                  have HID : Hid (IsB WC w.heap.size xd KA) := hid
                  have HXD : Hid (BoxB WC X KA xd) := hXd
                  have HY2 : Hid (BoxB WC Y bY xY) := hY2
                  have HB2 : Hid (Both w.heap.size w WC one two BA BB A1 B1 ⟨ra1, rc1, ((s1, s2, s3), ml1), rs1⟩ xb1) := hB2
                  have hNC : w.heap.size ≤ WC.heap.size := hB2.bl.size
                  have b0 := hB2.bb.c0
                  have b1 := hB2.bb.c1
                  have b2 := hB2.bb.c2
                  have y0' := hY2.c0
                  have y1' := hY2.c1
                  have y2' := hY2.c2
                  have yf := hY2.fr
                  have lY2 := hY2.lt
                  have lB2 := hB2.bb.lt
                  have KDb2 : Hid (∀ w1, Below WC.heap.size WC w1 → Calls Try.prog 22 #[bufV B1 xb1, .int .i64 dv] w1 fun r w' => (∃ x', r = .returned (.tuple #[bufV KB2 x', .int .i64 0]) ∧ IsB w' w.heap.size x' KB2) ∧ Below w1.heap.size w1 w') := fun w1 hb => (KDb.out w1 (HB2.out.ib.below hb)).mono (fun r w' ⟨⟨x', h1, h2⟩, h3⟩ => ⟨⟨x', h1, h2.mono (Nat.le_trans hNC hb.size)⟩, h3⟩)
                  clear a0 a1 a2 x0' x1' x2' xf KDa KDb hid hXd hY2 hB2
                  obtain ⟨rb1, rd1, ⟨⟨t1, t2, t3⟩, ql1⟩, rt1⟩ := xb1
                  unfold bufV hdV at KDb2
                  unfold hdV at b1
                  dsimp only at KDb2 b0 b1 b2
                  have lD2 : db < WC.heap.size := World.block_lt_of_cell? _ _ dz2
                  go_upto_region 16 with fail
                  go_cut [17] (fun e wc => e = .int .i64 0 ∧ ∃ xe, IsB wc w.heap.size xe KB2 ∧ BoxB wc Y KB2 xe ∧ IsB wc w.heap.size xd KA ∧ BoxB wc X KA xd ∧ Both w.heap.size w wc one two BA BB A1 B1 ⟨ra1, rc1, ((s1, s2, s3), ml1), rs1⟩ ⟨rb1, rd1, ((t1, t2, t3), ql1), rt1⟩)
                  case first =>
                    go_region_law (go_simp; go_at_call 22; refine (KDb2.out _ (Below.refl _ _).drew).mono ?_; rintro e w2 ⟨⟨xe, rfl, hie⟩, hbd0⟩; have hbd : Below WC.heap.size WC w2 := (Below.refl _ _).drew.trans hbd0; have t0' := cell_later hbd y0'; have t1' := cell_later hbd y1'; have t2' := cell_later hbd y2'; have tf : ∀ j, w2.frozen? ⟨Y, j, none⟩ = false := fun j => (hbd.frozen (p := ⟨Y, j, none⟩) lY2).trans (yf j))
                    all_goals
                      have hs := (HY2.out.below hbd).set (b' := KB2) (x' := xe)
                      unfold hdV at hs
                      go_wp2
                      go_meet
                      exact ⟨rfl, xe, hie.set3 (HY2.out.below hbd).ty _ _ _, hs, (HID.out.below hbd).set3 (HY2.out.below hbd).ty _ _ _, (HXD.out.below hbd).other nXY _ _ _, (HB2.out.below hNC hbd).three (HY2.out.below hbd) nYA nYB (by omega) _ _ _⟩
                  case rest =>
                    obtain ⟨rfl, xe, hie, hYe, hid, hXd, hB3⟩ := hcut
                    rename World => WD
                    have HIE : Hid (IsB WD w.heap.size xe KB2) := hie
                    have HID2 : Hid (IsB WD w.heap.size xd KA) := hid
                    have HYE : Hid (BoxB WD Y KB2 xe) := hYe
                    have HB3 : Hid (Both w.heap.size w WD one two BA BB A1 B1 ⟨ra1, rc1, ((s1, s2, s3), ml1), rs1⟩ ⟨rb1, rd1, ((t1, t2, t3), ql1), rt1⟩) := hB3
                    have c0 := hXd.c0
                    have c1 := hXd.c1
                    have c2 := hXd.c2
                    have e0 := hYe.c0
                    have e1' := hYe.c1
                    have e2' := hYe.c2
                    have g0 := hB3.ba.c0
                    have g1 := hB3.ba.c1
                    have g2 := hB3.ba.c2
                    have gf := hB3.ba.fr
                    have lA3 := hB3.ba.lt
                    have lY3 := hYe.lt
                    have lX3 := hXd.lt
                    clear hie hYe hid hXd hB3 b0 b1 b2 y0' y1' y2' yf KDb2 HXD HY2 HB2 HID
                    obtain ⟨ra2, rc2, ⟨⟨v1, v2, v3⟩, ml2⟩, rs2⟩ := xd
                    obtain ⟨rb2, rd2, ⟨⟨z1', z2', z3'⟩, ql2⟩, rt2⟩ := xe
                    unfold hdV at c1 e1' g1
                    dsimp only at c0 c1 c2 e0 e1' e2' g0 g1 g2
                    have hS1 : Half w.heap.size w _ one BA KA ⟨ra2, rc2, ((v1, v2, v3), ml2), rs2⟩ := Half.put HB3.out.ba HID2.out HLA.out
                    have hS2 := HIE.out.set3 HB3.out.ba.ty (.int .i64 KA.lim) (.slice v1 v2 v3) (.slice ra2 rs2.length rc2)
                    have hS3 := HB3.out.bb.other (fun e => nAB e.symm) (.int .i64 KA.lim) (.slice v1 v2 v3) (.slice ra2 rs2.length rc2)
                    have hS4 := below_three HB3.out.bl hN1 (.int .i64 KA.lim) (.slice v1 v2 v3) (.slice ra2 rs2.length rc2)
                    unfold hdV at hS1
                    dsimp only at hS1
                    go_wp2_with fail
                    generalize (((WD.setCell ⟨BA, 0, none⟩ (.int .i64 KA.lim)).setCell ⟨BA, 1, none⟩ (.slice v1 v2 v3)).setCell ⟨BA, 2, none⟩ (.slice ra2 rs2.length rc2)) = SW at *
                    have KPk2 := KPk.out _ SW hS2
                    unfold bufV hdV at KPk2
                    dsimp only at KPk2
                    have HS1 : Hid (Half w.heap.size w SW one BA KA ⟨ra2, rc2, ((v1, v2, v3), ml2), rs2⟩) := hS1
                    have HS3 : Hid (BoxB SW BB B1 ⟨rb1, rd1, ((t1, t2, t3), ql1), rt1⟩) := hS3
                    clear hS1 hS2
                    refine KPk2.mono ?_
                    rintro e w2 ⟨⟨bp, xp, rfl, hip, hlp, hpp2⟩, hb2⟩
                    have hbox := hS3.below hb2
                    have k0 := hbox.c0
                    have k1 := hbox.c1
                    have k2 := hbox.c2
                    have kf := hbox.fr
                    have lk := hbox.lt
                    have HBOX : Hid (BoxB w2 BB B1 ⟨rb1, rd1, ((t1, t2, t3), ql1), rt1⟩) := hbox
                    have HH : Hid (Half w.heap.size w (((w2.setCell ⟨BB, 0, none⟩ (.int .i64 bp.lim)).setCell ⟨BB, 1, none⟩ (.slice xp.m.1.1 xp.m.1.2.1 xp.m.1.2.2)).setCell ⟨BB, 2, none⟩ (.slice xp.ra xp.rs.length xp.rc)) two BB bp xp) := Half.put hbox (hip.mono hS4.size) (hlp.trans HLB.out)
                    have HPP : Hid ((entsB KA).Perm (entsB bp)) := HPM.out.trans hpp2.symm
                    have hbl2 : Below w.heap.size w w2 := hS4.trans (hb2.mono hS4.size)
                    unfold hdV at k1
                    dsimp only at k0 k1 k2
                    clear hbox hS3 hip hlp hpp2 c0 c1 c2 e0 e1' e2' g0 g1 g2 gf
                    go_wp2
                    go_meet
                    exact ⟨KA, bp, _, xp, Both.mk2 ((HS1.out.below hb2).other HBOX.out nAB _ _ _) HH.out HPP.out (below_three hbl2 (by omega) _ _ _)⟩
              · have hd' : ¬ (k : Int) < (dn : Int) := by omega
                go_wp2
                go_meet
                exact ⟨A1, B1, xa1, xb1, HB1.out⟩
            case rest =>
              obtain ⟨A2, B2, xa2, xb2, hB2⟩ := hcut
              rename World => WB
              have HB2 : Hid (Both w.heap.size w WB one two BA BB A2 B2 xa2 xb2) := hB2
              have hNB : w.heap.size ≤ WB.heap.size := hB2.bl.size
              have KAa : Hid (Calls Try.prog 21 #[bufV A2 xa2] WB fun r w' => (∃ (hh : Hdr) (es' : List EM) (l' : List Ent), r = .returned (.tuple #[hdV hh, .int .i64 0]) ∧ l'.Perm (entsB A2) ∧ Rise l' ∧ OE w' WB.heap.size (hdV hh) es' l') ∧ Below WB.heap.size WB w') := all_uni A2 xa2 w.heap.size WB hB2.ia
              have KAb : Hid (∀ w1, Below WB.heap.size WB w1 → Calls Try.prog 21 #[bufV B2 xb2] w1 fun r w' => (∃ (hh : Hdr) (es' : List EM) (l' : List Ent), r = .returned (.tuple #[hdV hh, .int .i64 0]) ∧ l'.Perm (entsB B2) ∧ Rise l' ∧ OE w' w1.heap.size (hdV hh) es' l') ∧ Below w1.heap.size w1 w') := fun w1 hb => all_uni B2 xb2 w.heap.size w1 (HB2.out.ib.below hb)
              have a0 := hB2.ba.c0
              have a1 := hB2.ba.c1
              have a2 := hB2.ba.c2
              have b0 := hB2.bb.c0
              have b1 := hB2.bb.c1
              have b2 := hB2.bb.c2
              have lA2 := hB2.ba.lt
              have lB2 := hB2.bb.lt
              have hma : ¬ (xa2.m.1.2.1 : Int) > one := by
                have h1 := hB2.ia.len1.1
                have h2 := hB2.ia.ok.mem
                have h3 := hB2.la
                omega
              have hmb : ¬ (xb2.m.1.2.1 : Int) > two := by
                have h1 := hB2.ib.len1.1
                have h2 := hB2.ib.ok.mem
                have h3 := hB2.lb
                omega
              have hsm := hB2.ia.ok.small
              have hal := hB2.ia.ok.all
              have HPM : Hid ((entsB A2).Perm (entsB B2)) := hB2.pm
              have KSE : Hid (∀ (h q : Hdr) (ea eb1 : List EM) (la1 lb1 : List Ent) (n1 n2 : Nat) (w1 : World), la1.Perm (entsB A2) → Rise la1 → lb1.Perm (entsB B2) → Rise lb1 → OE w1 n1 (hdV h) ea la1 → OE w1 n2 (hdV q) eb1 lb1 → Calls Try.prog 24 #[hdV h, hdV q] w1 fun r w' => r = .returned (.bool true) ∧ Below w1.heap.size w1 w') := fun h q ea eb1 la1 lb1 n1 n2 w1 p1 p2 p3 p4 p5 p6 => by
                have e0 : la1 = lb1 := rise_one (p1.trans (HPM.out.trans p3.symm)) p2 p4
                subst e0
                have q1 := OE_part (p := (h, ea)) p5
                have q2 := OE_part (p := (q, eb1)) p6
                have hr1 := q1.1.1.trans p5.len
                have hr2 := q2.1.1.trans p6.len
                have := sameE_eq h.1 q.1 h.2.2 q.2.2 ea eb1 la1 w1 q1.2 p5.ers q2.2 p6.ers (by rw [p1.length_eq]; omega) (fun z hz => by have := hsm.2.2 z (p1.mem_iff.1 hz); omega)
                rw [← hr1] at this
                have e3 : hdV q = .slice q.1 h.2.1 q.2.2 := by unfold hdV; rw [hr1, hr2]
                rw [e3]
                exact this
              clear hB2 hsm hal HPM
              obtain ⟨ra1, rc1, ⟨⟨s1, s2, s3⟩, ml1⟩, rs1⟩ := xa2
              obtain ⟨rb1, rd1, ⟨⟨t1, t2, t3⟩, ql1⟩, rt1⟩ := xb2
              rw [show bufV A2 ⟨ra1, rc1, ((s1, s2, s3), ml1), rs1⟩ = .agg #[.int .i64 A2.lim, .slice s1 s2 s3, .slice ra1 rs1.length rc1] from rfl] at KAa
              rw [show bufV B2 ⟨rb1, rd1, ((t1, t2, t3), ql1), rt1⟩ = .agg #[.int .i64 B2.lim, .slice t1 t2 t3, .slice rb1 rt1.length rd1] from rfl] at KAb
              unfold hdV at a1 b1
              dsimp only at a0 a1 a2 b0 b1 b2 hma hmb
              go_wp2_with fail
              refine KAa.out.mono ?_
              rintro e w2 ⟨⟨⟨h1', h2', h3x⟩, ea, la1, rfl, pma, ria, oea⟩, hb2⟩
              have c0 := cell_later hb2 b0
              have c1 := cell_later hb2 b1
              have c2 := cell_later hb2 b2
              have f1 := cell_later hb2 a1
              have lB3 : BB < w2.heap.size := World.block_lt_of_cell? _ _ c0
              rw [show hdV (h1', h2', h3x) = .slice h1' h2' h3x from rfl]
              go_wp2_with fail
              refine (KAb.out _ hb2).mono ?_
              rintro e w3 ⟨⟨⟨q1', q2', q3'⟩, eb1, lb1, rfl, pmb, rib, oeb⟩, hb3⟩
              have d1 := cell_later hb3 c1
              have g1 := cell_later hb3 f1
              have lA4 : BA < w3.heap.size := World.block_lt_of_cell? _ _ g1
              have lB4 : BB < w3.heap.size := World.block_lt_of_cell? _ _ d1
              have KS2 := KSE.out (h1', h2', h3x) (q1', q2', q3') ea eb1 la1 lb1 _ _ w3 pma ria pmb rib (oea.below hb3) oeb
              rw [show hdV (h1', h2', h3x) = .slice h1' h2' h3x from rfl, show hdV (q1', q2', q3') = .slice q1' q2' q3' from rfl] at KS2
              rw [show hdV (q1', q2', q3') = .slice q1' q2' q3' from rfl]
              clear pma pmb ria rib oea oeb KSE
              go_wp2_with fail
              refine KS2.mono ?_
              rintro e w4 ⟨rfl, hb4⟩
              have d1' := cell_later hb4 d1
              have g1' := cell_later hb4 g1
              have lA5 : BA < w4.heap.size := World.block_lt_of_cell? _ _ g1'
              have lB5 : BB < w4.heap.size := World.block_lt_of_cell? _ _ d1'
              have hb24 : Below WB.heap.size WB w4 := (hb2.trans (hb3.mono hb2.size)).trans (hb4.mono (hb2.trans (hb3.mono hb2.size)).size)
              have HFIN : Hid (Both w.heap.size w w4 one two BA BB A2 B2 ⟨ra1, rc1, ((s1, s2, s3), ml1), rs1⟩ ⟨rb1, rd1, ((t1, t2, t3), ql1), rt1⟩) := HB2.out.below hNB hb24
              go_wp2
              go_roundw
              case rel => exact ⟨k + 1, A2, B2, _, _, by omega, by go_num, HFIN.out⟩
              case measure => simp [intOf]; omega
    · go_wp2_with fail
      refine (KB.out _).mono ?_
      rintro e w2 ⟨rfl, hb2⟩
      go_wp2
      go_ret
      exact ⟨rfl, hbl.trans (hb2.mono hNr)⟩
end Go.Proofs.Ytnfknkihiapgiaa.bf
