/- GroupAll's state (the document's), and the laws that its regions ask for. -/
import Derived.Test.YtcpanmaahhiioaaGreatBatGA1
import Derived.Test.YtcpanmaahhiioaaGreatMgChgG
import Derived.Test.YtcpanmaahhiioaaGreatBatOrd1
namespace Go.Proofs.YtcpanmaahhiioaaGreat.bt
open Go.ChangeShapes Go.WideShapes Go.ChangeAt Go.RowKit
open vl pl
set_option linter.unusedVariables false
set_option linter.unusedSimpArgs false
structure GA (w wr : World) (base : Nat) (hv pv : Value) (p : Pln) (K : ch.KV) (vs : List ch.Cnt) (G : List GX) : Prop where
  est : Est wr base (estE hv pv G)
  kv : ch.kvP (hs G) = K
  ok : ∀ x ∈ G, rowOk x.1.2.r
  parts : ∀ x ∈ G, ch.outOf x.2.2 = ofKey (keyG p) vs (encR x.1.2.r)
  rows : ∀ x ∈ G, ∀ y ∈ x.2.2, ∃ ra rc, y.1 = .slice ra y.2.r.length rc ∧ vl.rowAt w ra y.2.r
theorem GA_start (w wr : World) (p : Pln) : GA w wr wr.heap.size (.slice none 0 0) (.slice none 0 0) p (gkeys p []) [] [] := by
  refine ⟨?_, rfl, fun x hx => (by cases hx), fun x hx => (by cases hx), fun x hx => (by cases hx)⟩
  refine ⟨Nat.le_refl _, fun x hx => ?_, ?_⟩
  · rcases List.mem_cons.1 hx with rfl | hx
    · exact World.ownsRow_nil _ _ _ _
    · rcases List.mem_cons.1 hx with rfl | hx
      · exact World.ownsRow_nil _ _ _ _
      · cases hx
  · show List.Pairwise apart [headE (.slice none 0 0) [], partE (.slice none 0 0) []]
    refine List.pairwise_cons.2 ⟨fun y hy g hg => ?_, List.pairwise_cons.2 ⟨fun y hy => absurd hy List.not_mem_nil, List.Pairwise.nil⟩⟩
    cases hg
theorem GA_below {w wr w' : World} {base : Nat} {hv pv : Value} {p : Pln} {K : ch.KV} {vs : List ch.Cnt} {G : List GX} (h : GA w wr base hv pv p K vs G) (hb : Below wr.heap.size wr w') : GA w w' base hv pv p K vs G :=
  ⟨Est_below h.est hb, h.kv, h.ok, h.parts, h.rows⟩
theorem GA_form {w wr : World} {base : Nat} {hv pv : Value} {p : Pln} {K : ch.KV} {vs : List ch.Cnt} {G : List GX} (h : GA w wr base hv pv p K vs G) :
    (∃ ad cap, hv = .slice ad G.length cap) ∧ ∃ ad cap, pv = .slice ad G.length cap ∧ (0 < G.length → ∃ g, ad = some ⟨g, 0, none⟩) := by
  have h1 : wr.ownsRow base 45 2 hv G.length (ch.flatP (hs G)) := h.est.own (headE hv G) (List.mem_cons_self ..)
  have h2 : wr.ownsRow base 27 1 pv G.length (qv G) := h.est.own (partE pv G) (List.mem_cons_of_mem _ (List.mem_cons_self ..))
  obtain ⟨a, c, e, _⟩ := ch.row_form h1
  obtain ⟨a2, c2, e2, h3⟩ := ch.row_form h2
  exact ⟨⟨a, c, e⟩, a2, c2, e2, h3⟩
/-- heads are few, and right -/
theorem GA_heads {w wr : World} {base : Nat} {hv pv : Value} {p : Pln} {vs : List ch.Cnt} {G : List GX} (h : GA w wr base hv pv p (gkeys p vs) vs G) (hl : vs.length ≤ 4096) : ch.viewOk (ch.outOf (hs G)) ∧ ch.wfView (ch.outOf (hs G)) ∧ G.length ≤ vs.length := by
  have hk : ch.kvOf (ch.outOf (hs G)) = gkeys p vs := h.kv
  have hok : ∀ c ∈ ch.outOf (hs G), rowOk c.r := fun c hc => by
    obtain ⟨y, hy, rfl⟩ := List.mem_map.1 hc
    obtain ⟨x, hx, rfl⟩ := List.mem_map.1 hy
    exact h.ok x hx
  have hgl := gkeys_len p vs
  have hg : ch.good (ch.kvOf (ch.outOf (hs G))) := by
    rw [hk]
    refine ⟨gkeys_up p vs, by omega, fun q hq => ?_, ?_⟩
    · rw [gkeys_one p vs q hq]; omega
    · rw [← hk]
      intro q hq
      obtain ⟨c, hc, rfl⟩ := List.mem_map.1 hq
      exact ⟨c.r, hok c hc, rfl⟩
  have hv := ch.good_view hg hok
  refine ⟨hv.1, hv.2, ?_⟩
  have := congrArg List.length hk
  rw [ch.kvOf_len, ch.out_len, hs_len] at this
  omega
theorem keys_ne {L : ch.PL} {k : List UInt8} (h : ∀ q ∈ ch.kvP L, q.1 ≠ k) : ∀ y ∈ L, encR y.2.r ≠ k := fun y hy => h (encR y.2.r, y.2.n) (List.mem_map.2 ⟨y.2, List.mem_map.2 ⟨y, hy, rfl⟩, rfl⟩)
/-- the row's group is not there yet -/
theorem ga_new {p : Pln} {vs : List ch.Cnt} {c : ch.Cnt} {G : List GX} {i : Nat} (hk : ch.kvP (hs G) = gkeys p vs) (hi : i ≤ G.length) (h1 : ch.lower (ch.outOf (hs G)) (keyG p c) i) (h2 : ch.upper (ch.outOf (hs G)) (keyG p c) i) (rv : Value) (r : List Cel) (hr : encR r = keyG p c) :
    ch.kvP (hs (G.take i) ++ (rv, ⟨r, 1⟩) :: hs (G.drop i)) = gkeys p (vs ++ [c]) ∧ ofKey (keyG p) vs (keyG p c) = [] ∧ (∀ x ∈ G.take i, encR x.1.2.r ≠ keyG p c) ∧ ∀ x ∈ G.drop i, encR x.1.2.r ≠ keyG p c := by
  have e1 : hs (G.take i) = (hs G).take i := by unfold hs; rw [List.map_take]
  have e2 : hs (G.drop i) = (hs G).drop i := by unfold hs; rw [List.map_drop]
  have l1 := ch.low_take (L := hs G) (by rw [hs_len]; exact hi) h1
  have l2 := ch.up_drop (L := hs G) h2
  have n1 := keys_ne (ch.ne_low l1)
  have n2 := keys_ne (ch.ne_up l2)
  have hkk : gkeys p vs = ch.kvP ((hs G).take i) ++ ch.kvP ((hs G).drop i) := by rw [← ch.kvP_app, List.take_append_drop, hk]
  refine ⟨?_, ?_, fun x hx => n1 x.1 (by rw [← e1]; exact List.mem_map.2 ⟨x, hx, rfl⟩), fun x hx => n2 x.1 (by rw [← e2]; exact List.mem_map.2 ⟨x, hx, rfl⟩)⟩
  · rw [e1, e2, ch.kvP_app, ch.kvP_cons, gkeys_snoc, hkk, ch.put_new l1 l2]
    show _ ++ (encR r, (1 : Int)) :: _ = _
    rw [hr]
  · unfold ofKey
    rw [List.filter_eq_nil_iff]
    intro d hd he
    have hd2 : keyG p d = keyG p c := by simpa using he
    obtain ⟨q, hq, e⟩ := (gkeys_mem p vs (keyG p c)).2 ⟨d, hd, hd2⟩
    rw [hkk] at hq
    rcases List.mem_append.1 hq with h | h
    · exact ch.ne_low l1 q h e
    · exact ch.ne_up l2 q h e
/-- the row's group is there -/
theorem ga_found {p : Pln} {vs : List ch.Cnt} {c : ch.Cnt} {G : List GX} {i : Nat} (hk : ch.kvP (hs G) = gkeys p vs) (hi : i < G.length) (h1 : ch.lower (ch.outOf (hs G)) (keyG p c) i) (h2 : ch.upper (ch.outOf (hs G)) (keyG p c) (i + 1)) (hr : encR (G[i]).1.2.r = keyG p c) :
    ch.kvP (hs G) = gkeys p (vs ++ [c]) ∧ G = G.take i ++ G[i] :: G.drop (i + 1) ∧ (∀ x ∈ G.take i, encR x.1.2.r ≠ keyG p c) ∧ ∀ x ∈ G.drop (i + 1), encR x.1.2.r ≠ keyG p c := by
  have e1 : hs (G.take i) = (hs G).take i := by unfold hs; rw [List.map_take]
  have e2 : hs (G.drop (i + 1)) = (hs G).drop (i + 1) := by unfold hs; rw [List.map_drop]
  have l1 := ch.low_take (L := hs G) (by rw [hs_len]; omega) h1
  have l2 := ch.up_drop (L := hs G) h2
  have n1 := keys_ne (ch.ne_low l1)
  have n2 := keys_ne (ch.ne_up l2)
  have hsp := ch.split_at (hs G) i (by rw [hs_len]; exact hi)
  have hgi : (hs G)[i]'(by rw [hs_len]; exact hi) = (G[i]).1 := by unfold hs; rw [List.getElem_map]
  have hkk : gkeys p vs = ch.kvP ((hs G).take i) ++ (keyG p c, (G[i]).1.2.n) :: ch.kvP ((hs G).drop (i + 1)) := by
    rw [← hk]
    have := congrArg ch.kvP hsp
    rw [ch.kvP_app, ch.kvP_cons, hgi, hr] at this
    exact this
  have hone : (G[i]).1.2.n = 1 := gkeys_one p vs (keyG p c, (G[i]).1.2.n) (by rw [hkk]; exact List.mem_append.2 (.inr (List.mem_cons_self ..)))
  refine ⟨?_, by rw [List.getElem_cons_drop, List.take_append_drop], fun x hx => n1 x.1 (by rw [← e1]; exact List.mem_map.2 ⟨x, hx, rfl⟩), fun x hx => n2 x.1 (by rw [← e2]; exact List.mem_map.2 ⟨x, hx, rfl⟩)⟩
  rw [gkeys_snoc, hk, hkk, ch.put_mid l1 l2, hone]
/-- the row comes to its group -/
theorem GA_put {w wr w' : World} {base : Nat} {hv pv pv' q' : Value} {p : Pln} {K : ch.KV} {vs : List ch.Cnt} {c : ch.Cnt} {A B : List GX} {x : GX} {cv : Value} (h : GA w wr base hv pv p K vs (A ++ x :: B)) (hA : ∀ y ∈ A, encR y.1.2.r ≠ keyG p c) (hB : ∀ y ∈ B, encR y.1.2.r ≠ keyG p c) (hx : encR x.1.2.r = keyG p c)
    (hc : ∃ ra rc, cv = .slice ra c.r.length rc ∧ vl.rowAt w ra c.r) (he : Est w' base (estE hv pv' (A ++ (x.1, (q', x.2.2 ++ [(cv, c)])) :: B))) : GA w w' base hv pv' p K (vs ++ [c]) (A ++ (x.1, (q', x.2.2 ++ [(cv, c)])) :: B) := by
  have hm : ∀ y ∈ A ++ (x.1, (q', x.2.2 ++ [(cv, c)])) :: B, y = (x.1, (q', x.2.2 ++ [(cv, c)])) ∨ (y ∈ A ++ x :: B ∧ encR y.1.2.r ≠ keyG p c) := fun y hy => by
    rcases List.mem_append.1 hy with h1 | h1
    · exact .inr ⟨List.mem_append.2 (.inl h1), hA y h1⟩
    · rcases List.mem_cons.1 h1 with h2 | h2
      · exact .inl h2
      · exact .inr ⟨List.mem_append.2 (.inr (List.mem_cons_of_mem _ h2)), hB y h2⟩
  have hxm : x ∈ A ++ x :: B := List.mem_append.2 (.inr (List.mem_cons_self ..))
  refine ⟨he, ?_, fun y hy => ?_, fun y hy => ?_, fun y hy => ?_⟩
  · rw [← h.kv, hs_app, hs_app]; rfl
  · rcases hm y hy with rfl | h1
    · exact h.ok x hxm
    · exact h.ok y h1.1
  · rcases hm y hy with rfl | h1
    · show ch.outOf (x.2.2 ++ [(cv, c)]) = ofKey (keyG p) (vs ++ [c]) (encR x.1.2.r)
      rw [ofKey_snoc, if_pos hx.symm, ← h.parts x hxm]
      simp [ch.outOf]
    · rw [ofKey_snoc, if_neg (fun e => h1.2 e.symm), List.append_nil]
      exact h.parts y h1.1
  · rcases hm y hy with rfl | h1
    · intro z hz
      rcases List.mem_append.1 hz with h2 | h2
      · exact h.rows x hxm z h2
      · rw [List.mem_singleton] at h2
        subst h2
        exact hc
    · exact h.rows y h1.1
/-- a new group -/
theorem GA_ins {w wr w' : World} {base : Nat} {hv pv hv' pv' : Value} {p : Pln} {K K' : ch.KV} {vs : List ch.Cnt} {A B : List GX} {rv : Value} {r : List Cel} (h : GA w wr base hv pv p K vs (A ++ B)) (hK : ch.kvP (hs A ++ (rv, ⟨r, 1⟩) :: hs B) = K') (hr : rowOk r) (ho : ofKey (keyG p) vs (encR r) = [])
    (he : Est w' base (estE hv' pv' (A ++ ((rv, ⟨r, 1⟩), (.slice none 0 0, [])) :: B))) : GA w w' base hv' pv' p K' vs (A ++ ((rv, ⟨r, 1⟩), (.slice none 0 0, [])) :: B) := by
  have hm : ∀ y ∈ A ++ ((rv, (⟨r, 1⟩ : ch.Cnt)), ((.slice none 0 0, []) : Value × ch.PL)) :: B, y = ((rv, ⟨r, 1⟩), (.slice none 0 0, [])) ∨ y ∈ A ++ B := fun y hy => by
    rcases List.mem_append.1 hy with h1 | h1
    · exact .inr (List.mem_append.2 (.inl h1))
    · rcases List.mem_cons.1 h1 with h2 | h2
      · exact .inl h2
      · exact .inr (List.mem_append.2 (.inr h2))
  refine ⟨he, by rw [← hK, hs_app]; rfl, fun y hy => ?_, fun y hy => ?_, fun y hy => ?_⟩
  · rcases hm y hy with rfl | h1
    · exact hr
    · exact h.ok y h1
  · rcases hm y hy with rfl | h1
    · exact ho.symm
    · exact h.parts y h1
  · rcases hm y hy with rfl | h1
    · intro z hz; cases hz
    · exact h.rows y h1
theorem infoL : (Tryz.prog.info? 27).map (fun i => (i.zero, i.size, i.bytes)) = some (some (.slice none 0 0), 1, 24) := by kernel_rfl
theorem sizeL (w : World) : (sizeOf 27).run Tryz.prog w = .ok 1 w := by kernel_rfl
theorem elemL : Tryz.prog.elem 94 = 27 := by kernel_rfl
theorem undL : Tryz.prog.underlying 94 = some (.slice (Tryz.prog.elem 94)) := by rw [elemL]; exact Tryz.underlying94
theorem back_lt (g n cap k : Nat) (hk : k ≤ n) (hn : n ≤ cap) : ∃ a2 : Addr, (∀ w, (Instr.sliceAt 94 (.slice (some ⟨g, 0, none⟩) n cap) (some (.int .i64 k)) none none).run Tryz.prog w = .ok (.slice (some a2) (n - k) (cap - k)) w) ∧ (k < n → a2 = ⟨g, k * 1, none⟩) := by
  refine ⟨if cap = k then ⟨g, 0, none⟩ else ⟨g, k * 1, none⟩, ?_, fun h => by rw [if_neg (by omega)]⟩
  intro w
  rw [run_sliceAt_slice (t := 94) (h := undL), run_slice_l (t := 94) (ht := undL) (h0 := by omega) (h1 := by omega), elemL, sizeL]
  simp [Result.andThen, sliced]
  split
  · rfl
  · simp [Addr.add]
    omega
theorem step_cpyL {ops : Array Oper} {o : Oper} {a : Act} {w w' : World} {K : Act → World → Prop} {Q : Exit → Act → World → Prop} {E : Prop} (hgd : o.guard = none) (s x : Operand)
    (hop : o.op = .call { callee := .builtin .copy, args := #[s, x], argTypes := #[94, 94] }) (vs vx v' : Value) (hs : a.eval s = vs) (hx : a.eval x = vx)
    (hrun : (Builtin.copy_ #[94, 94] o.type #[vs, vx]).run Tryz.prog w = .ok v' w') (h : K (a.put o.dst v') w') :
    if Region.wanted o (yielded ops a.tmps) = true then Oper.wp Tryz.prog o a w K Q else E := by
  rw [if_pos (by simp [Region.wanted, hgd])]
  unfold Oper.wp
  simp [execOp, hop, resolve, invoke, builtin, hs, hx, hrun, Result.andThen]
  exact h
theorem cell_one_new (w : World) (x : Value) (t : TypeId) : ∀ j u, [x][j]? = some u → (w.alloc (.cells #[x] t)).cell? ((⟨w.heap.size, 0, none⟩ : Addr).add j) = some u := by
  intro j u hu
  cases j with
  | zero => rw [ch.add_at]; have : x = u := by simpa using hu
            subst this; go_simp
  | succ j => simp at hu
theorem step_appCt {ops : Array Oper} {o : Oper} {a : Act} {K : Act → World → Prop} {Q : Exit → Act → World → Prop} {E : Prop} (hgd : o.guard = none) (s x : Operand)
    (hop : o.op = .call { callee := .builtin .append, args := #[s, x], argTypes := #[27, 27] })
    (base : Nat) (v : Value) (l : List Value) (n : Int) (ad : Option Addr) (rl cap : Nat) (w1 : World) (ln : Nat) (ho : w1.ownsRow base 45 2 v ln l) (hl : ln ≤ 1000000000) (hb : base ≤ w1.heap.size)
    (hs : a.eval s = v) (hx : a.eval x = .slice (some ⟨w1.heap.size, 0, none⟩) 1 1)
    (h : ∀ g cap2 w2, w2.ownsRow base 45 2 (.slice (some ⟨g, 0, none⟩) (ln + 1) cap2) (ln + 1) (l ++ [.slice ad rl cap, .int .i64 n]) → (w1.alloc (.cells #[.slice ad rl cap, .int .i64 n] 45)).grownBy w2 v.ownBlock → (v.ownBlock = some g ∨ g = w1.heap.size + 1) → g < w2.heap.size → K (a.put o.dst (.slice (some ⟨g, 0, none⟩) (ln + 1) cap2)) w2) :
    if Region.wanted o (yielded ops a.tmps) = true then Oper.wp Tryz.prog o a (w1.alloc (.cells #[.slice ad rl cap, .int .i64 n] 45)) K Q else E := by
  obtain ⟨i0, hi, hz0, hz1, hz2⟩ := info_parts ch.infoC
  refine step_append_lies _ hgd s x 27 hop base 45 i0 (.agg #[.slice none 0 0, .int .i64 0]) 2 32 Tryz.underlying27 hi hz0 hz1 hz2 rfl (by decide) v ln l hs
    (ho.alloc _) ⟨w1.heap.size, 0, none⟩ 1 1 [.slice ad rl cap, .int .i64 n] hx rfl (cell_two_new _ _ _ _) (by intro u hu; simp at hu; rcases hu with rfl | rfl <;> rfl) (by decide) (by unfold maxLen; omega) (by omega) (by simp; omega) (w1.heap.size + 1) (by simp) ?_
  intro g cap2 w2 h2 h3 h4 h5
  exact h g cap2 w2 h2 h3 h4 h5
end Go.Proofs.YtcpanmaahhiioaaGreat.bt
