/- entries.All as an iterator: the entries of memory, then those of each run. -/
import Derived.Test.YtnfknkihiapgiaaBufIter
namespace Go.Proofs.Ytnfknkihiapgiaa.bf
open Go.ChangeShapes Go.WideShapes Go.ChangeAt Go.RowKit Go.Shelf
set_option linter.unusedVariables false
set_option linter.unusedSimpArgs false
attribute [local go_sem] Oper.semAt_some
/-- an entry, with where its row lies -/
structure EM where
  key : ByteArray
  time : Int
  seq : Int
  row : Hdr
  met : Bool
instance : Inhabited EM := ⟨⟨⟨#[]⟩, 0, 0, (none, 0, 0), false⟩⟩
def EM.val (e : EM) : Value := .agg #[.string e.key, .int .i64 e.time, .int .i64 e.seq, hdV e.row, .bool e.met]
/-- a slice that begins at a has these entries -/
def emsAt (w : World) (a : Option Addr) (l : List EM) : Prop :=
  ∀ i, i < l.length → ∃ b off, a = some ⟨b, off, none⟩ ∧ w.cell? ⟨b, off + i * 5, none⟩ = some (.string (l.getD i default).key) ∧ w.cell? ⟨b, off + i * 5 + 1, none⟩ = some (.int .i64 (l.getD i default).time) ∧
    w.cell? ⟨b, off + i * 5 + 1 + 1, none⟩ = some (.int .i64 (l.getD i default).seq) ∧ w.cell? ⟨b, off + i * 5 + 1 + 1 + 1, none⟩ = some (hdV (l.getD i default).row) ∧ w.cell? ⟨b, off + i * 5 + 1 + 1 + 1 + 1, none⟩ = some (.bool (l.getD i default).met)
theorem emsAt_below {w w' : World} {a : Option Addr} {l : List EM} (h : emsAt w a l) (hb : Below w.heap.size w w') : emsAt w' a l := by
  intro i hi
  obtain ⟨b, o, e, x1, x2, x3, x4, x5⟩ := h i hi
  exact ⟨b, o, e, cell_later hb x1, cell_later hb x2, cell_later hb x3, cell_later hb x4, cell_later hb x5⟩
theorem emsAt_keep {Pr : Nat → Obj → Prop} {W W' : World} {a : Option Addr} {l : List EM} (h : emsAt W a l) (hk : KeepO Pr W W') (hs : ∀ x, a = some x → names Pr W x.block) : emsAt W' a l := by
  intro i hi
  obtain ⟨b, o, e, x1, x2, x3, x4, x5⟩ := h i hi
  have hn := hs _ e
  exact ⟨b, o, e, hk.cell hn x1, hk.cell hn x2, hk.cell hn x3, hk.cell hn x4, hk.cell hn x5⟩
/-- a part: its header, and what it holds -/
abbrev Part := Hdr × List EM
def ems (p : List Part) : List EM := p.flatMap (·.2)
def offs (p : List Part) (i : Nat) : Nat := (ems (p.take i)).length
theorem ems_app (p q : List Part) : ems (p ++ q) = ems p ++ ems q := by unfold ems; rw [List.flatMap_append]
theorem part_split {p : List Part} {i : Nat} (h : i < p.length) : p = p.take i ++ (p[i] :: p.drop (i + 1)) := by
  rw [List.getElem_cons_drop]; exact (List.take_append_drop i p).symm
theorem offs_succ {p : List Part} {i : Nat} (h : i < p.length) : offs p (i + 1) = offs p i + (p[i]).2.length := by
  unfold offs
  rw [List.take_succ_eq_append_getElem h, ems_app, List.length_append]
  simp [ems]
theorem offs_end (p : List Part) : offs p p.length = (ems p).length := by unfold offs; rw [List.take_length]
theorem ems_at {p : List Part} {i k : Nat} (h : i < p.length) (hk : k < (p[i]).2.length) : (ems p)[offs p i + k]? = some ((p[i]).2.getD k default) := by
  have e : ems p = ems (p.take i) ++ ((p[i]).2 ++ ems (p.drop (i + 1))) := by
    have h1 : ems p = ems (p.take i ++ (p[i] :: p.drop (i + 1))) := by rw [← part_split h]
    rw [h1, ems_app]; rfl
  rw [e]
  unfold offs
  rw [List.getElem?_append_right (by omega), Nat.add_sub_cancel_left, List.getElem?_append_left hk, List.getElem?_eq_getElem hk, List.getD_eq_getElem?_getD, List.getElem?_eq_getElem hk]; rfl
theorem parts_any (v1 v2 v3 : Value) (h1 : v1.oneCell' = true) (h2 : v2.oneCell' = true) (h3 : v3.oneCell' = true) (w : World) :
    Calls Try.prog 48 #[.agg #[v1, v2, v3]] w fun e w' => e = .returned (.func (.func 75) #[] #[.pointer (some ⟨w.heap.size, 0, none⟩)]) ∧ w' = w.alloc (.cells #[v1, v2, v3] 25) := by
  go_enter Try.func48, Try.ntmps48
  go_wp2
  go_ret
  exact ⟨rfl, rfl⟩
theorem all_any (v1 v2 v3 : Value) (h1 : v1.oneCell' = true) (h2 : v2.oneCell' = true) (h3 : v3.oneCell' = true) (w : World) :
    Calls Try.prog 61 #[.agg #[v1, v2, v3]] w fun e w' => e = .returned (.func (.func 80) #[] #[.pointer (some ⟨w.heap.size, 0, none⟩)]) ∧ w' = w.alloc (.cells #[v1, v2, v3] 25) := by
  go_enter Try.func61, Try.ntmps61
  go_wp2
  go_ret
  exact ⟨rfl, rfl⟩
/-- the parts of a buffer in memory: of a box BX -/
structure boxAt (w : World) (BX : Nat) (lim : Int) (ra : Option Addr) (rc : Nat) (m : Part) (rs : List Part) : Prop where
  lim : w.cell? ⟨BX, 0, none⟩ = some (.int .i64 lim)
  mem : w.cell? ⟨BX, 1, none⟩ = some (hdV m.1)
  runs : w.cell? ⟨BX, 2, none⟩ = some (.slice ra rs.length rc)
  hds : hdsAt w ra (rs.map (·.1))
  len : ∀ p ∈ m :: rs, p.1.2.1 = p.2.length ∧ p.2.length ≤ 9223372036854775807
  ems : ∀ p ∈ m :: rs, emsAt w p.1.1 p.2
  few : rs.length ≤ 9223372036854775807
set_option maxHeartbeats 4000000 in
theorem all_iter (BX : Nat) (lim : Int) (ra : Option Addr) (rc : Nat) (m : Part) (rs : List Part) (Pr : Nat → Obj → Prop) (w : World) (h : boxAt w BX lim ra rc m rs)
    (hS : names Pr w BX) (hS2 : ∀ x, 0 < rs.length → ra = some x → names Pr w x.block) (hS3 : ∀ p ∈ m :: rs, ∀ x, 0 < p.2.length → p.1.1 = some x → names Pr w x.block)
    (hP1 : ∀ b c f, w.heap.size ≤ b → Pr b (.cells c 25 f)) (hP2 : ∀ b c f, w.heap.size ≤ b → Pr b (.cells c 55 f)) :
    Iter Try.prog 80 #[.pointer (some ⟨BX, 0, none⟩)] ((ems (m :: rs)).map fun e => #[e.val]) (KeepO Pr) w := by
  intro l J Jx W hb hJ hJx hY h0
  have k0 := cell_later hb h.lim
  have k1 := cell_later hb h.mem
  have k2 := cell_later hb h.runs
  obtain ⟨⟨m1, m2, m3⟩, ml⟩ := m
  unfold hdV at k1
  dsimp only at k1
  have lX : BX < W.heap.size := World.block_lt_of_cell? _ _ k0
  obtain ⟨n, hn⟩ : ∃ n, rs.length = n := ⟨_, rfl⟩
  have HN : Hid (rs.length = n) := hn
  rw [hn] at k2
  clear hn
  obtain ⟨xs, hxs⟩ : ∃ z, (ems ((((m1, m2, m3) : Hdr), ml) :: rs)).map (fun e => #[e.val]) = z := ⟨_, rfl⟩
  have HX : Hid ((ems ((((m1, m2, m3) : Hdr), ml) :: rs)).map (fun e => #[e.val]) = xs) := hxs
  rw [hxs] at hY ⊢
  clear hxs
  refine callsIn_of_wp_marks Try.func80 rfl trivial ?_ rfl
  simp only [Try.ntmps80, List.size_toArray, List.length_cons, List.length_nil, Nat.reduceAdd, Nat.reduceSub, Array.replicate_succ, Array.replicate_zero, List.push_toArray, List.append_toArray, List.nil_append, List.cons_append]
  gi_wp2_with (refine ⟨trivial, rfl, ?_⟩; gi_at_call 48; refine (callsIn_wide.2 (parts_any _ _ _ rfl rfl rfl _)).mono ?_; rintro e w' ⟨rfl, rfl⟩)
  have HI : Hid (boxAt w BX lim ra rc ((m1, m2, m3), ml) rs ∧ names Pr w BX ∧ (∀ x, 0 < rs.length → ra = some x → names Pr w x.block) ∧ (∀ p ∈ ((m1, m2, m3), ml) :: rs, ∀ x, 0 < p.2.length → p.1.1 = some x → names Pr w x.block)) := ⟨h, hS, hS2, hS3⟩
  have HP : Hid ((∀ b c f, w.heap.size ≤ b → Pr b (.cells c 25 f)) ∧ (∀ b c f, w.heap.size ≤ b → Pr b (.cells c 55 f))) := ⟨hP1, hP2⟩
  have HJ : Hid (OwnFrom W.heap.size J ∧ OwnFrom W.heap.size Jx) := ⟨hJ, hJx⟩
  have HY : Hid (∀ k x W1, xs[k]? = some x → J k W1 → YieldAt Fence.wide 0 Try.prog l x W1 fun e W' => KeepsFrom W.heap.size W1 W' ∧ ((e = .returned (.bool true) ∧ J (k + 1) W' ∧ KeepO Pr W1 W') ∨ (e = .returned (.bool false) ∧ Jx () W'))) := hY
  have c2 : ((W.alloc (.cells #[.func (.yield l) #[] #[]] 55)).alloc (.cells #[.int .i64 lim, .slice m1 m2 m3, .slice ra n rc] 25)).cell? ⟨W.heap.size, 0, none⟩ = some (.func (.yield l) #[] #[]) := by go_simp
  have d1 : ((W.alloc (.cells #[.func (.yield l) #[] #[]] 55)).alloc (.cells #[.int .i64 lim, .slice m1 m2 m3, .slice ra n rc] 25)).cell? ⟨W.heap.size + 1, 1, none⟩ = some (.slice m1 m2 m3) := by go_simp
  have d2 : ((W.alloc (.cells #[.func (.yield l) #[] #[]] 55)).alloc (.cells #[.int .i64 lim, .slice m1 m2 m3, .slice ra n rc] 25)).cell? ⟨W.heap.size + 1, 2, none⟩ = some (.slice ra n rc) := by go_simp
  have hbV : Below W.heap.size W ((W.alloc (.cells #[.func (.yield l) #[] #[]] 55)).alloc (.cells #[.int .i64 lim, .slice m1 m2 m3, .slice ra n rc] 25)) := ((Below.refl _ _).alloc (Nat.le_refl _) _).alloc (by simp) _
  have hsV : ((W.alloc (.cells #[.func (.yield l) #[] #[]] 55)).alloc (.cells #[.int .i64 lim, .slice m1 m2 m3, .slice ra n rc] 25)).heap.size = W.heap.size + 2 := by simp
  have nB : names Pr ((W.alloc (.cells #[.func (.yield l) #[] #[]] 55)).alloc (.cells #[.int .i64 lim, .slice m1 m2 m3, .slice ra n rc] 25)) (W.heap.size + 1) := fun o ho => by
    have h := World.alloc_heap_new (W.alloc (.cells #[.func (.yield l) #[] #[]] 55)) (.cells #[.int .i64 lim, .slice m1 m2 m3, .slice ra n rc] 25)
    rw [World.size_alloc] at h
    rw [h] at ho; cases ho
    exact hP1 _ _ _ (by have := hb.size; omega)
  have nY : names Pr ((W.alloc (.cells #[.func (.yield l) #[] #[]] 55)).alloc (.cells #[.int .i64 lim, .slice m1 m2 m3, .slice ra n rc] 25)) W.heap.size := fun o ho => by
    have h := (Below.heap_alloc (W.alloc (.cells #[.func (.yield l) #[] #[]] 55)) (.cells #[.int .i64 lim, .slice m1 m2 m3, .slice ra n rc] 25) W.heap.size (by simp)).trans (World.alloc_heap_new W _)
    rw [h] at ho; cases ho
    exact hP2 _ _ _ hb.size
  have hJV : J 0 ((W.alloc (.cells #[.func (.yield l) #[] #[]] 55)).alloc (.cells #[.int .i64 lim, .slice m1 m2 m3, .slice ra n rc] 25)) := hJ.alloc _ (hJ.alloc _ h0)
  clear hY hJ hJx h hS hS2 hS3 hP1 hP2 k0 k1 k2 h0
  generalize (W.alloc (.cells #[.func (.yield l) #[] #[]] 55)).alloc (.cells #[.int .i64 lim, .slice m1 m2 m3, .slice ra n rc] 25) = V at *
  have hbw : Below w.heap.size w V := hb.trans (hbV.mono hb.size)
  obtain ⟨P, hP⟩ : ∃ z : List Part, (((m1, m2, m3), ml) :: rs) = z := ⟨_, rfl⟩
  have HPL : Hid (P.length = n + 1) := by show _ = _; rw [← hP, List.length_cons, HN.out]
  have HPM : Hid (∀ p ∈ P, p.1.2.1 = p.2.length ∧ p.2.length ≤ 9223372036854775807 ∧ emsAt V p.1.1 p.2 ∧ ∀ x, 0 < p.2.length → p.1.1 = some x → names Pr V x.block) := fun p hp => by
    rw [← hP] at hp
    refine ⟨(HI.out.1.len p hp).1, (HI.out.1.len p hp).2, emsAt_below (HI.out.1.ems p hp) hbw, fun x h0 hx => ?_⟩
    obtain ⟨b, o, e, y, _⟩ := HI.out.1.ems p hp 0 h0
    rw [hx] at e; cases e
    exact names_below hbw (World.block_lt_of_cell? _ _ y) (HI.out.2.2.2 p hp _ h0 hx)
  have HXP : Hid ((((m1, m2, m3) : Hdr) :: rs.map (·.1)).map (fun h => #[hdV h]) = P.map fun p => #[hdV p.1]) := by
    show _ = _
    rw [← hP]; simp
  have HE : Hid ((ems P).map (fun e => #[e.val]) = xs) := by show _ = _; rw [← hP]; exact HX.out
  have hrl : (rs.map (·.1)).length = n := by rw [List.length_map, HN.out]
  have hit := parts_iter (W.heap.size + 1) lim (m1, m2, m3) ra rc (rs.map (·.1)) Pr V (by rw [hrl, ← HN.out]; exact HI.out.1.few) d1 (by rw [hrl]; exact d2) (fun i hi => by obtain ⟨b, o, e, x⟩ := HI.out.1.hds i hi; exact ⟨b, o, e, cell_later hbw x⟩) nB (fun x h0 hx => by
    obtain ⟨b, o, e, y⟩ := HI.out.1.hds 0 h0
    rw [hx] at e; cases e
    exact names_below hbw (World.block_lt_of_cell? _ _ y) (HI.out.2.2.1 _ (by simpa using h0) hx))
  rw [HXP.out] at hit
  refine range_law (gf := 75) (lb := #[.pointer (some ⟨W.heap.size + 1, 0, none⟩)]) rfl (enters_of Try.func75 (by kernel_rfl) rfl) hit (Below.refl _ _) (fun x hx => by obtain ⟨p, _, rfl⟩ := List.mem_map.1 hx; rfl) (fun h k => KeepO.trans h k) (fun W l o o' _ h ho => KeepO.put W l o o' h ho)
    (fun i X => J (offs P i) X ∧ KeepO Pr V X) (fun c X => c = .ret ∧ Jx () X)
    (fun i X X' row hs hg hr => ⟨(own_up HJ.out.1 (by omega)) _ X X' row hs.1 hg hr, hs.2.grown hg (fun r e => (hr r e).2)⟩)
    (fun c X X' row hs hg hr => ⟨hs.1, (own_up HJ.out.2 (by omega)) _ X X' row hs.2 hg hr⟩)
    ⟨hJV, KeepO.refl _ _⟩
    (fun i a' X => a' = { tmps := #[.func (.yield l) #[] #[], .pointer (some ⟨BX, 0, none⟩), .pointer (some ⟨W.heap.size, 0, none⟩), hdV (P.getD i default).1, undef, undef, .agg #[.int .i64 lim, .slice m1 m2 m3, .slice ra n rc], .func (.func 75) #[] #[.pointer (some ⟨W.heap.size + 1, 0, none⟩)], hdV (P.getD i default).1, undef, undef, undef, undef, undef, undef, undef, undef, undef, undef, undef], defers := [] })
    (fun i a' u X X' row hs hg hr => hs) ?assign ?body ?done ?stop
  case assign =>
    intro l' k x X K hx hi hK
    obtain ⟨hk, hxe⟩ := List.getElem?_eq_some_iff.1 hx
    rw [List.length_map] at hk
    rw [List.getElem_map] at hxe
    subst hxe
    have hd : P.getD k default = P[k] := by rw [List.getD_eq_getElem?_getD, List.getElem?_eq_getElem hk]; rfl
    have hK2 := fun W' h1 h2 h3 => hK _ W' h1 h2 h3 rfl
    rw [hd] at hK2
    clear hK hd hx
    obtain ⟨⟨⟨z1, z2, z3⟩, zl⟩, hz⟩ : ∃ z, P[k] = z := ⟨_, rfl⟩
    rw [hz] at hK2 ⊢
    unfold hdV at hK2 ⊢
    dsimp only at hK2 ⊢
    gi_wp2
    exact hK2 X (KeepsFrom.refl _ _) (KeepO.refl _ _) hi
  case body =>
    intro l' i x a' X hx hl' hrec hIi hax
    obtain ⟨hJi, hki⟩ := hIi
    obtain ⟨hi, hxe⟩ := List.getElem?_eq_some_iff.1 hx
    rw [List.length_map] at hi
    have hd : P.getD i default = P[i] := by rw [List.getD_eq_getElem?_getD, List.getElem?_eq_getElem hi]; rfl
    rw [hd] at hax
    subst hax
    have hpm := HPM.out P[i] (List.getElem_mem hi)
    have HAT : Hid (∀ j, j < (P[i]).2.length → xs[offs P i + j]? = some #[((P[i]).2.getD j default).val]) := fun j hj => by
      rw [← HE.out, List.getElem?_map, ems_at hi hj]; rfl
    have HNX : Hid (offs P (i + 1) = offs P i + (P[i]).2.length) := offs_succ hi
    clear hx hxe hd
    obtain ⟨⟨⟨z1, z2, z3⟩, zl⟩, hz⟩ : ∃ z, P[i] = z := ⟨_, rfl⟩
    rw [hz] at hpm HAT HNX ⊢
    dsimp only at hpm HAT HNX ⊢
    obtain ⟨hz2, hzl, hem, hnm⟩ := hpm
    subst hz2
    have HEM : Hid (emsAt V z1 zl ∧ ∀ x, 0 < zl.length → z1 = some x → names Pr V x.block) := ⟨hem, hnm⟩
    obtain ⟨q, hq⟩ : ∃ q, zl.length = q := ⟨_, rfl⟩
    have HQ : Hid (zl.length = q) := hq
    rw [hq] at hzl HAT HNX
    unfold hdV
    dsimp only
    rw [hq]
    clear hz hem hnm hq
    obtain ⟨O, hO⟩ : ∃ O, offs P i = O := ⟨_, rfl⟩
    rw [hO] at hJi HAT HNX
    have lV : W.heap.size < X.heap.size := by
      have := World.block_lt_of_cell? _ _ (hki.cell nY c2); exact this
    gi_wp2
    gi_loopw [11] (fun t wr => ∃ j : Nat, j ≤ q ∧ t = .int .i64 j ∧ J (O + j) wr ∧ KeepO Pr V wr ∧ KeepO Pr X wr ∧ KeepsFrom V.heap.size X wr) (fun t _ => q - (intOf t).toNat)
    case atStart => exact ⟨0, Nat.zero_le _, rfl, hJi, hki, KeepO.refl _ _, KeepsFrom.refl _ _⟩
    case round =>
      obtain ⟨j, hj, rfl, hJj, hkj, hkx, hkf⟩ := hrel
      have y2 := hkj.cell nY c2
      have ly : W.heap.size < wr.heap.size := World.block_lt_of_cell? _ _ y2
      by_cases hlt : j < q
      · obtain ⟨b, o, e, x1, x2, x3, x4, x5⟩ := HEM.out.1 j (by rw [HQ.out]; exact hlt)
        subst e
        have hn := HEM.out.2 _ (by rw [HQ.out]; omega) rfl
        have q1 := hkj.cell hn x1
        have q2 := hkj.cell hn x2
        have q3 := hkj.cell hn x3
        have q4 := hkj.cell hn x4
        have q5 := hkj.cell hn x5
        have hat := HAT.out j hlt
        obtain ⟨⟨ek, et, es, ⟨r1, r2, r3⟩, em⟩, he⟩ : ∃ z, zl.getD j default = z := ⟨_, rfl⟩
        rw [he] at q1 q2 q3 q4 q5 hat
        unfold hdV at q4
        unfold EM.val hdV at hat
        dsimp only at q1 q2 q3 q4 q5 hat
        have lb : b < wr.heap.size := World.block_lt_of_cell? _ _ q1
        have i1 : (0 : Int) ≤ (j : Int) := by omega
        have i2 : (j : Int) < (q : Int) := by omega
        have hyk := HY.out (O + j) _ (wr.alloc (.cells #[.string ek, .int .i64 et, .int .i64 es, .slice r1 r2 r3, .bool em] 28)) hat (HJ.out.1.alloc _ hJj)
        obtain ⟨fn2, tmps2, assign2, body2, hy2, hR2⟩ := hyk
        clear he x1 x2 x3 x4 x5 hat
        gi_wp2
        refine ⟨rfl, RoundIn.mono (F := Fence.wide.inRound l') hR2 ?_⟩
        rintro e W2 ⟨hf2, (⟨rfl, hJ2, hk2⟩ | ⟨rfl, hJx2⟩)⟩
        · have hk3 : KeepO Pr wr W2 := (KeepO.alloc wr _).trans hk2
          have hf3 : KeepsFrom V.heap.size X W2 := hkf.trans (((KeepsOthers.alloc _ _).from _).trans (kf_mono hf2 (by omega)))
          gi_wp2
          go_roundw
          case rel => exact ⟨j + 1, by omega, by go_num, hJ2, hkj.trans hk3, hkx.trans hk3, hf3⟩
          case measure => simp [intOf]; omega
        · have hf3 : KeepsFrom V.heap.size X W2 := hkf.trans (((KeepsOthers.alloc _ _).from _).trans (kf_mono hf2 (by omega)))
          gi_wp2
          exact ⟨hf3, rfl, hJx2⟩
      · have hjq : j = q := by omega
        subst hjq
        gi_wp2
        exact ⟨hkf, hkx, by rw [HNX.out]; exact hJj, hkj⟩
  case done =>
    rintro D X hD ⟨hJe, hke⟩ hK
    gi_wp2
    refine ⟨by simp, .inl ⟨_, _, rfl, run_takeDeferred hK, ?_⟩⟩
    have hJ2 := HJ.out.1.putObj (.deferred none) hJe (by omega) hK rfl
    rw [List.length_map, offs_end, ← List.length_map (f := fun e : EM => #[e.val]), HE.out] at hJ2
    exact ⟨_, results_none rfl _ _ _, ⟨_, rfl⟩, .inl hJ2⟩
  case stop =>
    rintro D c X hD ⟨rfl, hJe⟩ hK
    gi_wp2
    refine ⟨by simp, .inl ⟨_, _, rfl, run_takeDeferred hK, ?_⟩⟩
    exact ⟨_, results_none rfl _ _ _, ⟨_, rfl⟩, .inr (HJ.out.2.putObj (.deferred none) hJe (by omega) hK rfl)⟩
end Go.Proofs.Ytnfknkihiapgiaa.bf
