import Derived.Test.YtbfbgdinhiglaaaGreatS29
/- told: the changes that groups' rows tell. -/
namespace Go.Proofs.YtbfbgdinhiglaaaGreat.gr
open Go.ChangeShapes Go.WideShapes Go.ChangeAt Go.RowKit
open vl pl bt
set_option linter.unusedVariables false
set_option linter.unusedSimpArgs false
attribute [local go_sem] Oper.semAt_some
def toldR (size : Nat) : List (List Cel) → List (List Cel) → List ch.Chg
  | [], [] => []
  | a :: was, [] => ⟨2, a⟩ :: toldR size was []
  | [], b :: now => ⟨1, b⟩ :: toldR size [] now
  | a :: was, b :: now =>
    if cmpRows (a.take size) (b.take size) < 0 then ⟨2, a⟩ :: toldR size was (b :: now)
    else if 0 < cmpRows (a.take size) (b.take size) then ⟨1, b⟩ :: toldR size (a :: was) now
    else (if a = b then [] else [⟨3, a⟩, ⟨4, b⟩]) ++ toldR size was now
termination_by was now => was.length + now.length
def matchC (w0 : World) : List (Int × Value) → List ch.Chg → Prop
  | [], [] => True
  | x :: p, c :: l => (∃ ra rc, x = (c.k, .slice ra c.r.length rc) ∧ vl.rowAt w0 ra c.r) ∧ matchC w0 p l
  | _, _ => False
theorem matchC_app {w0 : World} : ∀ {p : List (Int × Value)} {l : List ch.Chg} {q : List (Int × Value)} {m : List ch.Chg}, matchC w0 p l → matchC w0 q m → matchC w0 (p ++ q) (l ++ m)
  | [], [], q, m, _, h => h
  | x :: p, c :: l, q, m, h, h2 => ⟨h.1, matchC_app h.2 h2⟩
  | [], _ :: _, _, _, h, _ => False.elim h
  | _ :: _, [], _, _, h, _ => False.elim h
theorem matchC_len {w0 : World} : ∀ {p : List (Int × Value)} {l : List ch.Chg}, matchC w0 p l → p.length = l.length
  | [], [], _ => rfl
  | x :: p, c :: l, h => by rw [List.length_cons, List.length_cons, matchC_len h.2]
  | [], _ :: _, h => False.elim h
  | _ :: _, [], h => False.elim h
theorem matchC_at {w0 : World} : ∀ {p : List (Int × Value)} {l : List ch.Chg}, matchC w0 p l → ∀ i, i < l.length → ∃ ra rc, p.getD i (0, .bool false) = ((l.getD i default).k, .slice ra (l.getD i default).r.length rc) ∧ vl.rowAt w0 ra (l.getD i default).r
  | [], [], _, i, hi => absurd hi (Nat.not_lt_zero i)
  | x :: p, c :: l, h, 0, _ => by obtain ⟨ra, rc, e, hr⟩ := h.1; exact ⟨ra, rc, e, hr⟩
  | x :: p, c :: l, h, i + 1, hi => by
    have := matchC_at h.2 i (by simpa using hi)
    simpa using this
  | [], _ :: _, h, _, _ => False.elim h
  | _ :: _, [], h, _, _ => False.elim h
/-- changes that are being told: the list is one's own, the rows lay there before -/
def TS (w0 wr : World) (v : Value) (l : List ch.Chg) : Prop := ∃ p, matchC w0 p l ∧ wr.ownsRow w0.heap.size 65 2 v p.length (ch.flatC p) ∧ w0.heap.size ≤ wr.heap.size
theorem TS_start (w0 : World) : TS w0 w0 (.slice none 0 0) [] := ⟨[], trivial, World.ownsRow_nil _ _ _ _, Nat.le_refl _⟩
theorem TS_below {w0 wr w' : World} {v : Value} {l : List ch.Chg} (h : TS w0 wr v l) (hb : Below wr.heap.size wr w') : TS w0 w' v l := by
  obtain ⟨p, h1, h2, h3⟩ := h
  exact ⟨p, h1, ch.own_below h2 hb, Nat.le_trans h3 hb.size⟩
theorem TS_chgs {w0 wr : World} {v : Value} {l : List ch.Chg} (h : TS w0 wr v l) (hb : Below w0.heap.size w0 wr) : ∃ ad cap, v = .slice ad l.length cap ∧ ch.chgsAt wr ad l := by
  obtain ⟨p, h1, h2, h3⟩ := h
  have hl := matchC_len h1
  have hv := own_is h2
  rw [hl] at hv
  refine ⟨adOf v, cpOf v, hv, fun i hi => ?_⟩
  obtain ⟨ra, rc, e, hr⟩ := matchC_at h1 i hi
  have hip : i < p.length := by omega
  rcases h2.2 with ⟨hv2, h0⟩ | ⟨g, cap', cur, hv2, _⟩
  · omega
  · have hown : v.ownBlock = some g := by rw [hv2]; rfl
    have hc := World.ownsRow.cells h2 hown
    obtain ⟨f1, f2⟩ := ch.flatC_at p i hip
    have c1 := hc _ _ f1
    have c2 := hc _ _ f2
    rw [ch.addr_add, e] at c1 c2
    refine ⟨g, 0, ra, rc, by rw [hv2]; rfl, c1, ?_, vl.rowAt_below hr hb⟩
    rw [Nat.add_assoc]; exact c2
theorem viewK_tail {w : World} {b o : Nat} {c : ch.Cnt} {v : List ch.Cnt} (h : viewK w (some ⟨b, o, none⟩) (c :: v)) : viewK w (some ⟨b, o + 2, none⟩) v := fun i hi => by
  obtain ⟨b', o', ra, rc, e, x1, x2, x3⟩ := h (i + 1) (by simpa using hi)
  cases e
  refine ⟨b, o + 2, ra, rc, rfl, ?_, by simpa using x2, by simpa using x3⟩
  rw [show o + 2 + i * 2 = o + (i + 1) * 2 by omega]
  simpa using x1
theorem viewK_head {w : World} {a : Option Addr} {c : ch.Cnt} {v : List ch.Cnt} (h : viewK w a (c :: v)) : ∃ b o ra rc, a = some ⟨b, o, none⟩ ∧ w.cell? ⟨b, o, none⟩ = some (.slice ra c.r.length rc) ∧ vl.rowAt w ra c.r ∧ c.r.length ≤ rc := by
  obtain ⟨b, o, ra, rc, e, x1, x2, x3⟩ := h 0 (by simp)
  exact ⟨b, o, ra, rc, e, by simpa using x1, by simpa using x2, by simpa using x3⟩
theorem viewK_none {w : World} (a : Option Addr) : viewK w a [] := fun i hi => absurd hi (Nat.not_lt_zero i)
theorem TS_add {w w3 : World} {op : List (Int × Value)} {out : List ch.Chg} {pn g cap2 : Nat} {k : Int} {ra : Option Addr} {rl rc : Nat} {r : List Cel} (hm : matchC w op out) (hp : op.length = pn) (ho : w3.ownsRow w.heap.size 65 2 (.slice (some ⟨g, 0, none⟩) (pn + 1) cap2) (pn + 1) (ch.flatC (op ++ [(k, .slice ra rl rc)]))) (hr : vl.rowAt w ra r) (hl : r.length = rl) : TS w w3 (.slice (some ⟨g, 0, none⟩) (pn + 1) cap2) (out ++ [⟨k, r⟩]) := by
  refine ⟨op ++ [(k, .slice ra rl rc)], matchC_app hm ⟨⟨ra, rc, by rw [hl], hr⟩, trivial⟩, ?_, ?_⟩
  · rw [List.length_append, List.length_singleton, hp]; exact ho
  · rcases ho.2 with ⟨hv, _⟩ | ⟨g', c', cur, hv, hg, hh, _⟩
    · cases hv
    · have := Array.getElem?_eq_some_iff.1 hh; obtain ⟨h1, _⟩ := this; omega
theorem TS_add2 {w w3 : World} {op : List (Int × Value)} {out : List ch.Chg} {pn g cap2 : Nat} {k k2 : Int} {ra rb : Option Addr} {rl rc sl sc : Nat} {r s : List Cel} (hm : matchC w op out) (hp : op.length = pn) (ho : w3.ownsRow w.heap.size 65 2 (.slice (some ⟨g, 0, none⟩) (pn + 2) cap2) (pn + 2) (ch.flatC (op ++ [(k, .slice ra rl rc), (k2, .slice rb sl sc)]))) (hr : vl.rowAt w ra r) (hl : r.length = rl) (hs : vl.rowAt w rb s) (hsl : s.length = sl) : TS w w3 (.slice (some ⟨g, 0, none⟩) (pn + 2) cap2) (out ++ [⟨k, r⟩, ⟨k2, s⟩]) := by
  refine ⟨op ++ [(k, .slice ra rl rc), (k2, .slice rb sl sc)], matchC_app hm ⟨⟨ra, rc, by rw [hl], hr⟩, ⟨rb, sc, by rw [hsl], hs⟩, trivial⟩, ?_, ?_⟩
  · rw [List.length_append, hp]; exact ho
  · rcases ho.2 with ⟨hv, _⟩ | ⟨g', c', cur, hv, hg, hh, _⟩
    · cases hv
    · have := Array.getElem?_eq_some_iff.1 hh; obtain ⟨h1, _⟩ := this; omega
theorem sl_tail {b o n m c : Nat} (h : n + 1 = m) : Value.slice (if c = 1 then some ⟨b, o, none⟩ else some ⟨b, o + 2, none⟩) (m - 1) (c - 1) = Value.slice (if c = 1 then some ⟨b, o, none⟩ else some ⟨b, o + 2, none⟩) n (c - 1) := by subst h; rfl
theorem viewK_rest {w : World} {b o c : Nat} {y : ch.Cnt} {B : List ch.Cnt} (h : viewK w (some ⟨b, o, none⟩) (y :: B)) (hc : (y :: B).length ≤ c) : viewK w (if c = 1 then some ⟨b, o, none⟩ else some ⟨b, o + 2, none⟩) B := by
  split
  · rename_i e
    have : B = [] := by cases B with | nil => rfl | cons z B => simp at hc; omega
    subst this
    exact fun i hi => absurd hi (Nat.not_lt_zero i)
  · exact viewK_tail h
theorem wpList_appG {ops : Array Oper} {rest : List Oper} {o : Oper} {a : Act} {Q : Exit → Act → World → Prop} (hgd : o.guard = none) (s x : Operand)
    (hop : o.op = .call { callee := .builtin .append, args := #[s, x], argTypes := #[36, 36] })
    (base : Nat) (v : Value) (l : List (Int × Value)) (n : Int) (ad : Option Addr) (rl cap : Nat) (w1 : World) (ln : Nat) (hln : l.length = ln) (ho : w1.ownsRow base 65 2 v ln (ch.flatC l)) (hl : ln ≤ 1000000000) (hb : base ≤ w1.heap.size)
    (hs : a.eval s = v) (hx : a.eval x = .slice (some ⟨w1.heap.size, 0, none⟩) 1 1)
    (h : ∀ g cap2 w2, w2.ownsRow base 65 2 (.slice (some ⟨g, 0, none⟩) (ln + 1) cap2) (ln + 1) (ch.flatC (l ++ [(n, .slice ad rl cap)])) → (w1.alloc (.cells #[.int .i64 n, .slice ad rl cap] 65)).grownBy w2 v.ownBlock → (v.ownBlock = some g ∨ g = w1.heap.size + 1) → g < w2.heap.size → wpList Tryz.prog ops Q rest (a.put o.dst (.slice (some ⟨g, 0, none⟩) (ln + 1) cap2)) w2) :
    wpList Tryz.prog ops Q (o :: rest) a (w1.alloc (.cells #[.int .i64 n, .slice ad rl cap] 65)) := by
  obtain ⟨i0, hi, hz0, hz1, hz2⟩ := info_parts ch.infoG
  refine wpList_append_lies _ hgd s x 36 hop base 65 i0 (.agg #[.int .i64 0, .slice none 0 0]) 2 32 Tryz.underlying36 hi hz0 hz1 hz2 rfl (by decide) v ln (ch.flatC l) hs
    (ho.alloc _) ⟨w1.heap.size, 0, none⟩ 1 1 [.int .i64 n, .slice ad rl cap] hx rfl (cell_two_new _ _ _ _) (by intro u hu; simp at hu; rcases hu with rfl | rfl <;> rfl) (by decide) (by unfold maxLen; omega) (by omega) (by simp; omega) (w1.heap.size + 1) (by simp) ?_
  intro g cap2 w2 h2 h3 h4 h5
  exact h g cap2 w2 (by rw [ch.flatC_snoc]; exact h2) h3 h4 h5
theorem cell_four_new (w : World) (a b c d : Value) (t : TypeId) : ∀ j u, [a, b, c, d][j]? = some u → (w.alloc (.cells #[a, b, c, d] t)).cell? ((⟨w.heap.size, 0, none⟩ : Addr).add j) = some u := fun j u hj => by
  rw [ch.addr_add]
  match j, hj with
  | 0, hj => simp at hj; subst hj; go_simp
  | 1, hj => simp at hj; subst hj; go_simp
  | 2, hj => simp at hj; subst hj; go_simp
  | 3, hj => simp at hj; subst hj; go_simp
  | k + 4, hj => simp at hj
theorem step_appG2 {ops : Array Oper} {o : Oper} {a : Act} {K : Act → World → Prop} {Q : Exit → Act → World → Prop} {E : Prop} (hgd : o.guard = none) (s x : Operand)
    (hop : o.op = .call { callee := .builtin .append, args := #[s, x], argTypes := #[36, 36] })
    (base : Nat) (v : Value) (l : List (Int × Value)) (n1 : Int) (v1 : Value) (n2 : Int) (v2 : Value) (w1 : World) (ln : Nat) (hln : l.length = ln) (ho : w1.ownsRow base 65 2 v ln (ch.flatC l)) (hl : ln ≤ 1000000000) (hb : base ≤ w1.heap.size) (o1 : v1.oneCell' = true) (o2 : v2.oneCell' = true)
    (hs : a.eval s = v) (hx : a.eval x = .slice (some ⟨w1.heap.size, 0, none⟩) 2 2)
    (h : ∀ g cap2 w2, w2.ownsRow base 65 2 (.slice (some ⟨g, 0, none⟩) (ln + 2) cap2) (ln + 2) (ch.flatC (l ++ [(n1, v1), (n2, v2)])) → (w1.alloc (.cells #[.int .i64 n1, v1, .int .i64 n2, v2] 65)).grownBy w2 v.ownBlock → (v.ownBlock = some g ∨ g = w1.heap.size + 1) → g < w2.heap.size → K (a.put o.dst (.slice (some ⟨g, 0, none⟩) (ln + 2) cap2)) w2) :
    if Region.wanted o (yielded ops a.tmps) = true then Oper.wp Tryz.prog o a (w1.alloc (.cells #[.int .i64 n1, v1, .int .i64 n2, v2] 65)) K Q else E := by
  obtain ⟨i0, hi, hz0, hz1, hz2⟩ := info_parts ch.infoG
  refine step_append_lies _ hgd s x 36 hop base 65 i0 (.agg #[.int .i64 0, .slice none 0 0]) 2 32 Tryz.underlying36 hi hz0 hz1 hz2 rfl (by decide) v ln (ch.flatC l) hs
    (ho.alloc _) ⟨w1.heap.size, 0, none⟩ 2 2 [.int .i64 n1, v1, .int .i64 n2, v2] hx rfl (cell_four_new _ _ _ _ _ _) (by intro u hu; simp at hu; rcases hu with rfl | rfl | rfl | rfl <;> first | rfl | assumption) (by decide) (by unfold maxLen; omega) (by omega) (by simp; omega) (w1.heap.size + 1) (by simp) ?_
  intro g cap2 w2 h2 h3 h4 h5
  refine h g cap2 w2 ?_ h3 h4 h5
  rw [ch.flatC_app]
  exact h2
set_option maxRecDepth 100000 in
set_option maxHeartbeats 1000000 in
theorem first_right (size : Int) (wa na : Option Addr) (wc nc m : Nat) (w : World) (hm : 0 < m) : Calls Tryz.prog 87 #[.int .i64 size, .slice wa 0 wc, .slice na m nc] w fun e w' => e = .returned (.int .i64 1) ∧ Below w.heap.size w w' := by
  have h : ordI (m : Int) 0 = 1 := by unfold ordI; rw [if_neg (by omega), if_pos (by omega)]
  go_enter Tryz.func87, Tryz.ntmps87
  go_wp2_with (go_at_call 133; refine (cmpInt_any _ _ _).mono ?_; rw [h]; rintro e w' ⟨rfl, rfl⟩)
  go_ret
  exact ⟨rfl, Below.refl _ _⟩
set_option maxRecDepth 100000 in
set_option maxHeartbeats 1000000 in
theorem first_left (size : Int) (wa na : Option Addr) (wc nc m : Nat) (w : World) (hm : 0 < m) : Calls Tryz.prog 87 #[.int .i64 size, .slice wa m wc, .slice na 0 nc] w fun e w' => e = .returned (.int .i64 (-1)) ∧ Below w.heap.size w w' := by
  have h : ordI 0 (m : Int) = -1 := by unfold ordI; rw [if_pos (by omega)]
  have i1 : ((m : Int) == 0) = false := by rw [beq_eq_false_iff_ne]; omega
  go_enter Tryz.func87, Tryz.ntmps87
  go_wp2_with (go_at_call 133; refine (cmpInt_any _ _ _).mono ?_; rw [h]; rintro e w' ⟨rfl, rfl⟩)
  go_ret
  exact ⟨rfl, Below.refl _ _⟩
def toldOut (l : List ch.Chg) (e : Ending) (w' : World) : Prop := ∃ ad cap, e = .returned (.slice ad l.length cap) ∧ ch.chgsAt w' ad l
set_option maxRecDepth 100000 in
set_option maxHeartbeats 16000000 in
theorem told_any (size : Nat) (wa na : Option Addr) (wc nc : Nat) (was now : List ch.Cnt) (w : World) (hw : viewK w wa was) (hn : viewK w na now) (hwc : was.length ≤ wc) (hnc : now.length ≤ nc) (hw8 : ∀ c ∈ was, size ≤ c.r.length ∧ c.r.length ≤ 1000) (hn8 : ∀ c ∈ now, size ≤ c.r.length ∧ c.r.length ≤ 1000) (lw : was.length ≤ 100000) (ln : now.length ≤ 100000) :
    Calls Tryz.prog 40 #[.int .i64 size, .slice wa was.length wc, .slice na now.length nc] w fun e w' => toldOut (toldR size (was.map (·.r)) (now.map (·.r))) e w' ∧ Below w.heap.size w w' := by
  obtain ⟨T, hT⟩ : ∃ z, toldR size (was.map (·.r)) (now.map (·.r)) = z := ⟨_, rfl⟩
  have HW : Hid (viewK w wa was ∧ viewK w na now ∧ (∀ c ∈ was, size ≤ c.r.length ∧ c.r.length ≤ 1000) ∧ (∀ c ∈ now, size ≤ c.r.length ∧ c.r.length ≤ 1000) ∧ toldR size (was.map (·.r)) (now.map (·.r)) = T) := ⟨hw, hn, hw8, hn8, hT⟩
  rw [hT]
  obtain ⟨wl, hwl⟩ : ∃ z, was.length = z := ⟨_, rfl⟩
  obtain ⟨nl, hnl⟩ : ∃ z, now.length = z := ⟨_, rfl⟩
  have HL : Hid (was.length = wl ∧ now.length = nl) := ⟨hwl, hnl⟩
  rw [hwl] at hwc lw ⊢
  rw [hnl] at hnc ln ⊢
  clear hw hn hw8 hn8 hT hwl hnl
  go_enter Tryz.func40, Tryz.ntmps40
  go_wp2
  go_loopw [1, 2, 7] (fun s1 s2 s7 wr => ∃ (A B : List ch.Cnt) (out : List ch.Chg) (a1 a2 : Option Addr) (c1 c2 : Nat), s1 = .slice a1 A.length c1 ∧ s2 = .slice a2 B.length c2 ∧ A.length ≤ c1 ∧ B.length ≤ c2 ∧ Hid (viewK w a1 A ∧ viewK w a2 B ∧ (∀ c ∈ A, size ≤ c.r.length ∧ c.r.length ≤ 1000) ∧ (∀ c ∈ B, size ≤ c.r.length ∧ c.r.length ≤ 1000) ∧ out ++ toldR size (A.map (·.r)) (B.map (·.r)) = T) ∧ Hid (TS w wr s7 out) ∧ out.length + A.length + B.length ≤ wl + nl ∧ Below w.heap.size w wr) (fun s1 s2 _ _ => (match s1 with | .slice _ n _ => n | _ => 0) + (match s2 with | .slice _ n _ => n | _ => 0))
  case atStart => exact ⟨was, now, [], wa, na, wc, nc, by rw [HL.out.1], by rw [HL.out.2], by rw [HL.out.1]; exact hwc, by rw [HL.out.2]; exact hnc, ⟨HW.out.1, HW.out.2.1, HW.out.2.2.1, HW.out.2.2.2.1, HW.out.2.2.2.2⟩, TS_start w, by rw [HL.out.1, HL.out.2]; simp, Below.refl _ _⟩
  case round =>
    obtain ⟨A, B, out, a1, a2, c1, c2, rfl, rfl, hA, hB, HV, HT, hlen, hnx⟩ := hrel
    obtain ⟨op, hmt, how, hlo⟩ := HT.out
    have HM : Hid (matchC w op out) := hmt
    have hpl := matchC_len hmt
    obtain ⟨pn, hpn⟩ : ∃ z, op.length = z := ⟨_, rfl⟩
    have HPN : Hid (op.length = pn) := hpn
    have hpb : pn ≤ 1000000 := by omega
    have HOW : Hid (wr.ownsRow w.heap.size 65 2 u7 pn (ch.flatC op)) := by rw [hpn] at how; exact how
    clear hmt how hpl hpn
    cases A with
    | nil =>
      cases B with
      | nil =>
        obtain ⟨ad, cap, e, hch⟩ := TS_chgs HT.out hnx
        have e2 : out = T := by have := HV.out.2.2.2.2; simpa [toldR] using this
        subst e2
        subst e
        have HC : Hid (ch.chgsAt wr ad out) := hch
        clear hch
        go_wp2
        go_ret
        exact ⟨⟨ad, cap, rfl, HC.out⟩, hnx⟩
      | cons y B =>
        obtain ⟨v1, v2, v3, v4, v5⟩ := HV.out
        obtain ⟨b, o, ra, rc, e, x1, x2, x3⟩ := viewK_head v2
        subst e
        have HV2 : Hid (viewK w (if c2 = 1 then some ⟨b, o, none⟩ else some ⟨b, o + 2, none⟩) B ∧ (∀ c ∈ B, size ≤ c.r.length ∧ c.r.length ≤ 1000) ∧ (out ++ [⟨1, y.r⟩]) ++ toldR size [] (B.map (·.r)) = T) := ⟨viewK_rest v2 hB, fun c hc => v4 c (List.mem_cons_of_mem _ hc), by rw [← v5, List.map_cons]; simp [toldR]⟩
        have HR : Hid (vl.rowAt w ra y.r) := x2
        obtain ⟨m, hm⟩ : ∃ z, (y :: B).length = z := ⟨_, rfl⟩
        have HML : Hid (B.length + 1 = m) := by rw [← hm]; rfl
        have hm0 : 0 < m := by rw [← hm]; exact Nat.succ_pos _
        obtain ⟨yl, hyl⟩ : ∃ z, y.r.length = z := ⟨_, rfl⟩
        have HYL : Hid (y.r.length = yl) := hyl
        rw [hm] at hB hlen ⊢
        rw [hyl] at x1 x3
        have q1 := cell_later hnx x1
        have i1 : (1 : Int) ≤ (m : Int) := by omega
        have i2 : (m : Int) ≤ (c2 : Int) := by omega
        have i3 : (m : Int) > 0 := by omega
        clear v1 v2 v3 v4 v5 x1 x2 hm hyl HV
        go_wp2_with (first
          | (go_at_call 87; refine (first_right _ _ _ _ _ _ _ hm0).mono ?_; rintro e y1 ⟨rfl, hb1⟩; replace q1 := cell_later hb1 q1; have HO1 : Hid (y1.ownsRow w.heap.size 65 2 u7 pn (ch.flatC op)) := ch.own_below HOW.out hb1)
          | (at_builtin; refine wpList_appG rfl (.tmp 35) (.tmp 41) rfl w.heap.size _ op 1 ra yl rc y1 pn HPN.out HO1.out (by omega) (Nat.le_trans hlo hb1.size) rfl rfl ?_; intro g cap2 w3 hown2 hgrow2 hat2 hlt2))
        have HTS : Hid (TS w w3 (.slice (some ⟨g, 0, none⟩) (pn + 1) cap2) (out ++ [⟨1, y.r⟩])) := TS_add HM.out HPN.out hown2 HR.out HYL.out
        have hb3 : Below w.heap.size w w3 := ch.below_app (hnx.trans (hb1.mono hnx.size)) (Nat.le_trans hlo hb1.size) HO1.out hgrow2
        go_roundw
        case rel => exact ⟨[], B, out ++ [⟨1, y.r⟩], a1, _, c1, c2 - 1, rfl, sl_tail HML.out, hA, by have := HML.out; omega, ⟨viewK_none _, HV2.out.1, (fun c hc => absurd hc List.not_mem_nil), HV2.out.2.1, HV2.out.2.2⟩, HTS, by rw [List.length_append, List.length_singleton]; have := HML.out; simp at hlen ⊢; omega, hb3⟩
        case measure => have := HML.out; simp; omega
    | cons x A =>
      cases B with
      | nil =>
        obtain ⟨v1, v2, v3, v4, v5⟩ := HV.out
        obtain ⟨b, o, ra, rc, e, x1, x2, x3⟩ := viewK_head v1
        subst e
        have HV2 : Hid (viewK w (if c1 = 1 then some ⟨b, o, none⟩ else some ⟨b, o + 2, none⟩) A ∧ (∀ c ∈ A, size ≤ c.r.length ∧ c.r.length ≤ 1000) ∧ (out ++ [⟨2, x.r⟩]) ++ toldR size (A.map (·.r)) [] = T) := ⟨viewK_rest v1 hA, fun c hc => v3 c (List.mem_cons_of_mem _ hc), by rw [← v5, List.map_cons]; simp [toldR]⟩
        have HR : Hid (vl.rowAt w ra x.r) := x2
        obtain ⟨m, hm⟩ : ∃ z, (x :: A).length = z := ⟨_, rfl⟩
        have HML : Hid (A.length + 1 = m) := by rw [← hm]; rfl
        have hm0 : 0 < m := by rw [← hm]; exact Nat.succ_pos _
        obtain ⟨yl, hyl⟩ : ∃ z, x.r.length = z := ⟨_, rfl⟩
        have HYL : Hid (x.r.length = yl) := hyl
        rw [hm] at hA hlen ⊢
        rw [hyl] at x1 x3
        have q1 := cell_later hnx x1
        have i1 : (1 : Int) ≤ (m : Int) := by omega
        have i2 : (m : Int) ≤ (c1 : Int) := by omega
        have i3 : (m : Int) > 0 := by omega
        clear v1 v2 v3 v4 v5 x1 x2 hm hyl HV
        go_wp2_with (first
          | (go_at_call 87; refine (first_left _ _ _ _ _ _ _ hm0).mono ?_; rintro e y1 ⟨rfl, hb1⟩; replace q1 := cell_later hb1 q1; have HO1 : Hid (y1.ownsRow w.heap.size 65 2 u7 pn (ch.flatC op)) := ch.own_below HOW.out hb1)
          | (at_builtin; refine wpList_appG rfl (.tmp 24) (.tmp 30) rfl w.heap.size _ op 2 ra yl rc y1 pn HPN.out HO1.out (by omega) (Nat.le_trans hlo hb1.size) rfl rfl ?_; intro g cap2 w3 hown2 hgrow2 hat2 hlt2))
        have HTS : Hid (TS w w3 (.slice (some ⟨g, 0, none⟩) (pn + 1) cap2) (out ++ [⟨2, x.r⟩])) := TS_add HM.out HPN.out hown2 HR.out HYL.out
        have hb3 : Below w.heap.size w w3 := ch.below_app (hnx.trans (hb1.mono hnx.size)) (Nat.le_trans hlo hb1.size) HO1.out hgrow2
        go_roundw
        case rel => exact ⟨A, [], out ++ [⟨2, x.r⟩], _, a2, c1 - 1, c2, sl_tail HML.out, rfl, by have := HML.out; omega, hB, ⟨HV2.out.1, viewK_none _, HV2.out.2.1, (fun c hc => absurd hc List.not_mem_nil), HV2.out.2.2⟩, HTS, by rw [List.length_append, List.length_singleton]; have := HML.out; simp at hlen ⊢; omega, hb3⟩
        case measure => have := HML.out; simp; omega
      | cons y B =>
        obtain ⟨v1, v2, v3, v4, v5⟩ := HV.out
        obtain ⟨b, o, ra, rc, e, x1, x2, x3⟩ := viewK_head v1
        subst e
        obtain ⟨d, q, rb, sc, e, y1, y2, y3⟩ := viewK_head v2
        subst e
        have KF : Hid (∀ w1, Below w.heap.size w w1 → Calls Tryz.prog 87 #[.int .i64 size, .slice (some ⟨b, o, none⟩) (x :: A).length c1, .slice (some ⟨d, q, none⟩) (y :: B).length c2] w1 fun e w' => e = .returned (.int .i64 (cmpRows (x.r.take size) (y.r.take size))) ∧ Below w1.heap.size w1 w') := fun w1 hb => first_both size b o _ c1 d q _ c2 ra rb rc sc x.r y.r w1 (cell_later hb x1) (cell_later hb y1) (vl.rowAt_below x2 hb) (vl.rowAt_below y2 hb) (v3 x (List.mem_cons_self ..)).1 (v4 y (List.mem_cons_self ..)).1 x3 y3 (v3 x (List.mem_cons_self ..)).2 (v4 y (List.mem_cons_self ..)).2 (Nat.succ_pos _) (Nat.succ_pos _)
        have KE : Hid (∀ w1, Below w.heap.size w w1 → Calls Tryz.prog 88 #[.slice ra x.r.length rc, .slice rb y.r.length sc] w1 fun e w' => e = .returned (.bool (decide (x.r = y.r))) ∧ Below w1.heap.size w1 w') := fun w1 hb => equalV_any ra rb rc sc x.r y.r w1 (vl.rowAt_below x2 hb) (vl.rowAt_below y2 hb) (by have := (v3 x (List.mem_cons_self ..)).2; omega) (by have := (v4 y (List.mem_cons_self ..)).2; omega)
        have HRX : Hid (vl.rowAt w ra x.r) := x2
        have HRY : Hid (vl.rowAt w rb y.r) := y2
        have HVA : Hid (viewK w (some ⟨b, o, none⟩) (x :: A) ∧ (∀ c ∈ x :: A, size ≤ c.r.length ∧ c.r.length ≤ 1000) ∧ viewK w (if c1 = 1 then some ⟨b, o, none⟩ else some ⟨b, o + 2, none⟩) A ∧ (∀ c ∈ A, size ≤ c.r.length ∧ c.r.length ≤ 1000)) := ⟨v1, v3, viewK_rest v1 hA, fun c hc => v3 c (List.mem_cons_of_mem _ hc)⟩
        have HVB : Hid (viewK w (some ⟨d, q, none⟩) (y :: B) ∧ (∀ c ∈ y :: B, size ≤ c.r.length ∧ c.r.length ≤ 1000) ∧ viewK w (if c2 = 1 then some ⟨d, q, none⟩ else some ⟨d, q + 2, none⟩) B ∧ (∀ c ∈ B, size ≤ c.r.length ∧ c.r.length ≤ 1000)) := ⟨v2, v4, viewK_rest v2 hB, fun c hc => v4 c (List.mem_cons_of_mem _ hc)⟩
        have HTT : Hid (out ++ toldR size (x.r :: A.map (·.r)) (y.r :: B.map (·.r)) = T) := by have := v5; rw [List.map_cons, List.map_cons] at this; exact this
        obtain ⟨R, hR⟩ : ∃ z, cmpRows (x.r.take size) (y.r.take size) = z := ⟨_, rfl⟩
        have HRR : Hid (cmpRows (x.r.take size) (y.r.take size) = R) := hR
        rw [hR] at KF
        obtain ⟨m1, hm1⟩ : ∃ z, (x :: A).length = z := ⟨_, rfl⟩
        obtain ⟨m2, hm2⟩ : ∃ z, (y :: B).length = z := ⟨_, rfl⟩
        have HM1 : Hid (A.length + 1 = m1) := by rw [← hm1]; rfl
        have HM2 : Hid (B.length + 1 = m2) := by rw [← hm2]; rfl
        have hp1 : 0 < m1 := by rw [← hm1]; exact Nat.succ_pos _
        have hp2 : 0 < m2 := by rw [← hm2]; exact Nat.succ_pos _
        obtain ⟨xl, hxl⟩ : ∃ z, x.r.length = z := ⟨_, rfl⟩
        obtain ⟨yl, hyl⟩ : ∃ z, y.r.length = z := ⟨_, rfl⟩
        have HXL : Hid (x.r.length = xl) := hxl
        have HYL : Hid (y.r.length = yl) := hyl
        rw [hm1] at hA hlen KF ⊢
        rw [hm2] at hB hlen KF ⊢
        rw [hxl] at x1 KE
        rw [hyl] at y1 KE
        have q1 := cell_later hnx x1
        have q2 := cell_later hnx y1
        have i1 : (1 : Int) ≤ (m1 : Int) := by omega
        have i2 : (m1 : Int) ≤ (c1 : Int) := by omega
        have i3 : (m1 : Int) > 0 := by omega
        have j1 : (1 : Int) ≤ (m2 : Int) := by omega
        have j2 : (m2 : Int) ≤ (c2 : Int) := by omega
        have j3 : (m2 : Int) > 0 := by omega
        clear v1 v2 v3 v4 v5 x1 x2 x3 y1 y2 y3 hm1 hm2 hxl hyl hR HV
        rcases Int.lt_trichotomy R 0 with hR | hR | hR
        · have r2 : R ≤ 0 := by omega
          have r3 : ¬ R ≥ 0 := by omega
          have HV2 : Hid ((out ++ [⟨2, x.r⟩]) ++ toldR size (A.map (·.r)) ((y :: B).map (·.r)) = T) := by
            show _ = _
            rw [← HTT.out, List.map_cons, toldR, if_pos (by rw [HRR.out]; exact hR), List.append_assoc]; rfl
          go_wp2_with (first
            | (go_at_call 87; refine (KF.out _ hnx).mono ?_; rintro e y1 ⟨rfl, hb1⟩; replace q1 := cell_later hb1 q1; have HO1 : Hid (y1.ownsRow w.heap.size 65 2 u7 pn (ch.flatC op)) := ch.own_below HOW.out hb1)
            | (at_builtin; refine wpList_appG rfl (.tmp 24) (.tmp 30) rfl w.heap.size _ op 2 ra xl rc y1 pn HPN.out HO1.out (by omega) (Nat.le_trans hlo hb1.size) rfl rfl ?_; intro g cap2 w3 hown2 hgrow2 hat2 hlt2))
          have HTS : Hid (TS w w3 (.slice (some ⟨g, 0, none⟩) (pn + 1) cap2) (out ++ [⟨2, x.r⟩])) := TS_add HM.out HPN.out hown2 HRX.out HXL.out
          have hb3 : Below w.heap.size w w3 := ch.below_app (hnx.trans (hb1.mono hnx.size)) (Nat.le_trans hlo hb1.size) HO1.out hgrow2
          go_roundw
          case rel => exact ⟨A, y :: B, out ++ [⟨2, x.r⟩], _, some ⟨d, q, none⟩, c1 - 1, c2, sl_tail HM1.out, by rw [List.length_cons, HM2.out], by have := HM1.out; omega, by rw [List.length_cons, HM2.out]; omega, ⟨HVA.out.2.2.1, HVB.out.1, HVA.out.2.2.2, HVB.out.2.1, HV2.out⟩, HTS, by rw [List.length_append, List.length_singleton, List.length_cons, HM2.out]; have := HM1.out; omega, hb3⟩
          case measure => have := HM1.out; simp; omega
        · subst hR
          by_cases hq : x.r = y.r
          · have HV2 : Hid (out ++ toldR size (A.map (·.r)) (B.map (·.r)) = T) := by
              show _ = _
              rw [← HTT.out, toldR, if_neg (by rw [HRR.out]; omega), if_neg (by rw [HRR.out]; omega), if_pos hq]; rfl
            have KE2 : Hid (∀ w1, Below w.heap.size w w1 → Calls Tryz.prog 88 #[.slice ra xl rc, .slice rb yl sc] w1 fun e w' => e = .returned (.bool true) ∧ Below w1.heap.size w1 w') := fun w1 hb => by have := KE.out w1 hb; rw [decide_eq_true hq] at this; exact this
            clear KE hq
            go_wp2_with (go_at_call 87; refine (KF.out _ hnx).mono ?_; rintro e y1 ⟨rfl, hb1⟩; replace q1 := cell_later hb1 q1; replace q2 := cell_later hb1 q2)
            have hz : Below w.heap.size w y1 := hnx.trans (hb1.mono hnx.size)
            go_region_held3 (fun w' => w'.cell? ⟨b, o, none⟩ = some (.slice ra xl rc) ∧ w'.cell? ⟨d, q, none⟩ = some (.slice rb yl sc)) (first | exact ⟨cell_later hy2 q1, cell_later hy2 q2⟩ | go_keep)
              (first | (go_at_call 88; refine (KE2.out _ hz.drew).mono ?_; rintro e y2 ⟨rfl, hbY⟩; have hy2 : Below y1.heap.size y1 y2 := (Below.refl _ _).drew.trans hbY))
            all_goals
              go_wp2
              go_roundw
              case rel => exact ⟨A, B, out, _, _, c1 - 1, c2 - 1, sl_tail HM1.out, sl_tail HM2.out, by have := HM1.out; omega, by have := HM2.out; omega, ⟨HVA.out.2.2.1, HVB.out.2.2.1, HVA.out.2.2.2, HVB.out.2.2.2, HV2.out⟩, TS_below HT.out (hb1.trans (hy2.mono hb1.size)), by have := HM1.out; have := HM2.out; omega, hz.trans (hy2.mono hz.size)⟩
              case measure => have := HM1.out; have := HM2.out; simp; omega
          · have HV2 : Hid ((out ++ [⟨3, x.r⟩, ⟨4, y.r⟩]) ++ toldR size (A.map (·.r)) (B.map (·.r)) = T) := by
              show _ = _
              rw [← HTT.out, toldR, if_neg (by rw [HRR.out]; omega), if_neg (by rw [HRR.out]; omega), if_neg hq, List.append_assoc]
            have KE2 : Hid (∀ w1, Below w.heap.size w w1 → Calls Tryz.prog 88 #[.slice ra xl rc, .slice rb yl sc] w1 fun e w' => e = .returned (.bool false) ∧ Below w1.heap.size w1 w') := fun w1 hb => by have := KE.out w1 hb; rw [decide_eq_false hq] at this; exact this
            clear KE hq
            go_wp2_with (go_at_call 87; refine (KF.out _ hnx).mono ?_; rintro e y1 ⟨rfl, hb1⟩; replace q1 := cell_later hb1 q1; replace q2 := cell_later hb1 q2)
            have hz : Below w.heap.size w y1 := hnx.trans (hb1.mono hnx.size)
            go_region_held3 (fun w' => w'.cell? ⟨b, o, none⟩ = some (.slice ra xl rc) ∧ w'.cell? ⟨d, q, none⟩ = some (.slice rb yl sc)) (first | exact ⟨cell_later hy2 q1, cell_later hy2 q2⟩ | go_keep)
              (first | (go_at_call 88; refine (KE2.out _ hz.drew).mono ?_; rintro e y2 ⟨rfl, hbY⟩; have hy2 : Below y1.heap.size y1 y2 := (Below.refl _ _).drew.trans hbY))
            all_goals
              replace q1 := cell_later hy2 q1
              replace q2 := cell_later hy2 q2
              have hz2 : Below w.heap.size w y2 := hz.trans (hy2.mono hz.size)
              have HO1 : Hid (y2.drew.ownsRow w.heap.size 65 2 u7 pn (ch.flatC op)) := ch.own_below HOW.out (hb1.trans (hy2.mono hb1.size)).drew
              go_wp2
              go_region_law (first
                | (refine step_appG2 rfl (.tmp 54) (.tmp 65) rfl w.heap.size u7 op 3 (.slice ra xl rc) 4 (.slice rb yl sc) y2.drew pn HPN.out HO1.out (by omega) (Nat.le_trans hlo (Nat.le_trans hb1.size hy2.size)) rfl rfl (by simp [Act.eval, Act.put]) (by simp [Act.eval, Act.put]) ?_; intro g cap2 w3 hown2 hgrow2 hat2 hlt2))
              all_goals
                have HTS : Hid (TS w w3 (.slice (some ⟨g, 0, none⟩) (pn + 2) cap2) (out ++ [⟨3, x.r⟩, ⟨4, y.r⟩])) := TS_add2 HM.out HPN.out hown2 HRX.out HXL.out HRY.out HYL.out
                have hb3 : Below w.heap.size w w3 := ch.below_app hz2.drew (Nat.le_trans hlo (Nat.le_trans hb1.size hy2.size)) HO1.out hgrow2
                go_wp2
                go_roundw
                case rel => exact ⟨A, B, out ++ [⟨3, x.r⟩, ⟨4, y.r⟩], _, _, c1 - 1, c2 - 1, sl_tail HM1.out, sl_tail HM2.out, by have := HM1.out; omega, by have := HM2.out; omega, ⟨HVA.out.2.2.1, HVB.out.2.2.1, HVA.out.2.2.2, HVB.out.2.2.2, HV2.out⟩, HTS, by rw [List.length_append]; simp only [List.length_cons, List.length_nil]; have := HM1.out; have := HM2.out; omega, hb3⟩
                case measure => have := HM1.out; have := HM2.out; simp; omega
        · have r1 : ¬ R < 0 := by omega
          have r2 : ¬ R ≤ 0 := by omega
          have r3 : R ≥ 0 := by omega
          have r4 : R > 0 := hR
          have HV2 : Hid ((out ++ [⟨1, y.r⟩]) ++ toldR size ((x :: A).map (·.r)) (B.map (·.r)) = T) := by
            show _ = _
            rw [← HTT.out, List.map_cons, toldR, if_neg (by rw [HRR.out]; omega), if_pos (by rw [HRR.out]; exact hR), List.append_assoc]; rfl
          go_wp2_with (first
            | (go_at_call 87; refine (KF.out _ hnx).mono ?_; rintro e y1 ⟨rfl, hb1⟩; replace q2 := cell_later hb1 q2; have HO1 : Hid (y1.ownsRow w.heap.size 65 2 u7 pn (ch.flatC op)) := ch.own_below HOW.out hb1)
            | (at_builtin; refine wpList_appG rfl (.tmp 35) (.tmp 41) rfl w.heap.size _ op 1 rb yl sc y1 pn HPN.out HO1.out (by omega) (Nat.le_trans hlo hb1.size) rfl rfl ?_; intro g cap2 w3 hown2 hgrow2 hat2 hlt2))
          have HTS : Hid (TS w w3 (.slice (some ⟨g, 0, none⟩) (pn + 1) cap2) (out ++ [⟨1, y.r⟩])) := TS_add HM.out HPN.out hown2 HRY.out HYL.out
          have hb3 : Below w.heap.size w w3 := ch.below_app (hnx.trans (hb1.mono hnx.size)) (Nat.le_trans hlo hb1.size) HO1.out hgrow2
          go_roundw
          case rel => exact ⟨x :: A, B, out ++ [⟨1, y.r⟩], some ⟨b, o, none⟩, _, c1, c2 - 1, by rw [List.length_cons, HM1.out], sl_tail HM2.out, by rw [List.length_cons, HM1.out]; omega, by have := HM2.out; omega, ⟨HVA.out.1, HVB.out.2.2.1, HVA.out.2.1, HVB.out.2.2.2, HV2.out⟩, HTS, by rw [List.length_append, List.length_singleton, List.length_cons, HM1.out]; have := HM2.out; omega, hb3⟩
          case measure => have := HM2.out; simp; omega
end Go.Proofs.YtbfbgdinhiglaaaGreat.gr
