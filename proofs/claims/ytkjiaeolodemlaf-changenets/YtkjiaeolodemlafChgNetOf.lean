/- The document's NetOf and UndoOf. -/
import Derived.Test.YtkjiaeolodemlafChgOnce
import Derived.Test.YtkjiaeolodemlafChgRForm
import Derived.Test.YtkjiaeolodemlafChgDiffOf
namespace Go.Proofs.Ytkjiaeolodemlaf.ch
open Go.ChangeShapes Go.WideShapes Go.ChangeAt Go.RowKit Go.Maps Go.WideMaps
open vl
set_option linter.unusedVariables false
set_option linter.unusedSimpArgs false

structure TwoM (w0 wr : World) (v u : Value) (L M : PL) : Prop where
  mv : MV wr w0.heap.size v L
  mu : MV wr w0.heap.size u M
  vu : ∀ b, v.ownBlock = some b → u.ownBlock ≠ some b
  Lu : ∀ p ∈ L, ∀ b, p.1.ownBlock = some b → u.ownBlock ≠ some b
  Mv : ∀ p ∈ M, ∀ b, p.1.ownBlock = some b → v.ownBlock ≠ some b
theorem TwoM.symm {w0 wr : World} {v u : Value} {L M : PL} (h : TwoM w0 wr v u L M) : TwoM w0 wr u v M L := ⟨h.mu, h.mv, fun b h1 h2 => h.vu b h2 h1, h.Mv, h.Lu⟩
theorem TwoM_below {w0 wr w' : World} {v u : Value} {L M : PL} (h : TwoM w0 wr v u L M) (hb : Below wr.heap.size wr w') : TwoM w0 w' v u L M := ⟨MV_below h.mv hb, MV_below h.mu hb, h.vu, h.Lu, h.Mv⟩
theorem TwoM_step {w0 w w' : World} {v u v' : Value} {L M L' : PL} (h : TwoM w0 w v u L M) (hm : MV w' w0.heap.size v' L') (hf : frameM w v w' v' L L') : TwoM w0 w' v' u L' M := by
  have hs := hf.size
  have hult : ∀ b, u.ownBlock = some b → b < w.heap.size := fun b hb => (own_lt h.mu.own hb).2
  refine ⟨hm, ⟨Nat.le_trans h.mu.low hs, ?_, ?_⟩, ?_, ?_, ?_⟩
  · exact own_same h.mu.own (fun b hb => hf.kept b (hult b hb) (fun e => h.vu b e hb))
  · intro p hp
    obtain ⟨ad, cap, e, hr, ha⟩ := h.mu.rows p hp
    refine ⟨ad, cap, e, rowAt_block (cap := cap) hr (fun g hg hlt => hf.kept g hlt (h.Mv p hp g (by rw [e]; exact hg))), fun g hg => ⟨(ha g hg).1, Nat.lt_of_lt_of_le (ha g hg).2 hs⟩⟩
  · intro b hb hu
    rcases hf.own b hb with h1 | h1
    · exact h.vu b h1 hu
    · have := hult b hu; omega
  · intro p hp b hb hu
    rcases hf.rows p hp with ⟨q, hq, e⟩ | h1
    · exact h.Lu q hq b (by rw [e]; exact hb) hu
    · have := h1 b hb; have := hult b hu; omega
  · intro p hp b hb hv
    obtain ⟨ad, cap, e, hr, ha⟩ := h.mu.rows p hp
    have hlt := (ha b hb).2
    rcases hf.own b hv with h1 | h1
    · exact h.Mv p hp b hb h1
    · omega

/-- what has come, as counts -/
structure half (i : Nat) (L : PL) : Prop where
  good : good (kvP L)
  cnt : ∀ p ∈ L, p.2.n ≤ i
  len : L.length ≤ i
  ok : ∀ p ∈ L, rowOk p.2.r
theorem half_mono {i j : Nat} {L : PL} (h : half i L) (hj : i ≤ j) : half j L := ⟨h.good, fun p hp => by have := h.cnt p hp; omega, Nat.le_trans h.len hj, h.ok⟩
theorem half_get {i : Nat} {L : PL} (h : half i L) (k : List UInt8) : 0 ≤ getK (kvP L) k ∧ getK (kvP L) k ≤ i := by
  refine ⟨(good_get h.good k).1, ?_⟩
  by_cases e : getK (kvP L) k = 0
  · omega
  · obtain ⟨c, hc, e2⟩ := List.mem_map.1 (getK_mem e)
    obtain ⟨p, hp, rfl⟩ := List.mem_map.1 hc
    have := h.cnt p hp
    have e3 : p.2.n = getK (kvP L) k := congrArg Prod.snd e2
    omega
theorem half_zero {i : Nat} {L : PL} (h : half i L) (hi : i < 4096) (k : List UInt8) : addE (kvP L) k 1 = 0 := by
  have h1 := half_get h k
  rw [addE_zero]
  refine ⟨by omega, by omega, .inr (.inr ?_)⟩
  rw [kvP_len]; have := h.len; omega
theorem addV_len (kv : KV) (k : List UInt8) (n : Int) : (addV kv k n).length ≤ kv.length + 1 := by
  unfold addV
  split
  · omega
  · split
    · omega
    · split
      · have := len_del kv k; omega
      · split
        · omega
        · rw [len_put]; have := len_del kv k; omega
theorem half_step {i : Nat} {L L' : PL} {r : List Cel} (h : half i L) (hi : i < 4096) (hr : rowOk r) (hk : kvP L' = addV (kvP L) (encR r) 1) (ho : ∀ p ∈ L', rowOk p.2.r) : half (i + 1) L' ∧ ∀ k, getK (kvP L') k = getK (kvP L) k + if k = encR r then 1 else 0 := by
  have hz := half_zero h hi (encR r)
  have hget : ∀ k, getK (kvP L') k = getK (kvP L) k + if k = encR r then 1 else 0 := fun k => by rw [hk]; exact addV_get hz k
  have hg : good (kvP L') := by rw [hk]; exact good_add h.good hr 1
  refine ⟨⟨hg, ?_, ?_, ho⟩, hget⟩
  · intro p hp
    have hm : (encR p.2.r, p.2.n) ∈ kvP L' := List.mem_map.2 ⟨p.2, List.mem_map.2 ⟨p, hp, rfl⟩, rfl⟩
    have e := getK_of hg.up hm
    dsimp only at e
    rw [hget] at e
    have := half_get h (encR p.2.r)
    split at e <;> omega
  · have h1 := addV_len (kvP L) (encR r) 1
    rw [← hk, kvP_len, kvP_len] at h1
    have := h.len
    omega
theorem half_view {i : Nat} {L : PL} (h : half i L) : viewOk (outOf L) ∧ wfView (outOf L) := good_view h.good (fun c hc => by
  obtain ⟨p, hp, rfl⟩ := List.mem_map.1 hc
  exact h.ok p hp)

theorem MV_nil (w : World) : MV w w.heap.size (.slice none 0 0) [] := ⟨Nat.le_refl _, World.ownsRow_nil _ _ _ _, fun p hp => absurd hp List.not_mem_nil⟩
theorem TwoM_nil (w : World) : TwoM w w (.slice none 0 0) (.slice none 0 0) [] [] := ⟨MV_nil w, MV_nil w, fun b hb => (by cases hb), fun p hp => absurd hp List.not_mem_nil, fun p hp => absurd hp List.not_mem_nil⟩
theorem half_nil : half 0 [] := ⟨⟨List.Pairwise.nil, Nat.zero_le _, fun p hp => absurd hp List.not_mem_nil, fun p hp => absurd hp List.not_mem_nil⟩, fun p hp => absurd hp List.not_mem_nil, Nat.zero_le _, fun p hp => absurd hp List.not_mem_nil⟩

set_option maxRecDepth 100000 in
set_option maxHeartbeats 8000000 in
theorem netOf_any (c : Option Addr) (cc : Nat) (l : List Chg) (w : World) (hc : chgsAt w c l) (hwl : wfChgs l) (hf : formOk l) :
    Calls Try.prog 15 #[.slice c l.length cc] w fun e w' => (∃ M ad cap, (∀ c ∈ M, rowOk c.r) ∧ rising (kvOf M) ∧ (∀ k, getK (kvOf M) k = sumK l k) ∧ e = .returned (.slice ad (madeL M).length cap) ∧ chgsAt w' ad (madeL M)) ∧ Below w.heap.size w w' := by
  have HC : Hid (chgsAt w c l) := hc
  have HF : Hid (formOk l) := hf
  have hn4 := hf.1
  obtain ⟨n, hn⟩ : ∃ n, l.length = n := ⟨_, rfl⟩
  have HN : Hid (l.length = n) := hn
  rw [hn] at hn4 ⊢
  clear hc hf hn
  go_enter Try.func15, Try.ntmps15
  go_wp2
  go_loopw [3, 4, 5] (fun x y i wr => ∃ (k : Nat) (L M : PL), k ≤ n ∧ i = .int .i64 k ∧ TwoM w wr x y L M ∧ half k L ∧ half k M ∧ (∀ z, getK (kvP L) z - getK (kvP M) z = sumK (l.take k) z) ∧ Below w.heap.size w wr) (fun _ _ i _ => n - (intOf i).toNat)
  case atStart => exact ⟨0, [], [], Nat.zero_le _, rfl, TwoM_nil w, half_nil, half_nil, fun z => rfl, Below.refl _ _⟩
  case round =>
    obtain ⟨k, L, M, hk, rfl, htw, hhl, hhm, hsum, hnx⟩ := hrel
    have HTW : Hid (TwoM w wr u3 u4 L M) := htw
    have HHL : Hid (half k L) := hhl
    have HHM : Hid (half k M) := hhm
    have HSUM : Hid (∀ z, getK (kvP L) z - getK (kvP M) z = sumK (l.take k) z) := hsum
    clear htw hhl hhm hsum
    by_cases hlt : k < n
    · have hkl : k < l.length := by rw [HN.out]; exact hlt
      obtain ⟨b, o, ra, rc, e, x1, x2, x3⟩ := HC.out k hkl
      subst e
      have HRK : Hid (rowOk (l.getD k default).r) := chg_row hwl HF.out k hkl
      have HST : Hid (∀ z, sumK (l.take (k + 1)) z = sumK (l.take k) z + if z = encR (l.getD k default).r then moreOf (l.getD k default).k else 0) := sum_step l k hkl
      have HR0 : Hid (vl.rowAt w ra (l.getD k default).r) := x3
      have q1 := cell_later hnx x1
      have q2 := cell_later hnx x2
      obtain ⟨⟨kd, r⟩, hcv⟩ : ∃ c, l.getD k default = c := ⟨_, rfl⟩
      rw [hcv] at x1 x2 q1 q2 HRK HST HR0
      dsimp only at x1 x2 q1 q2 HRK HST HR0
      obtain ⟨rl, hrl⟩ : ∃ z, r.length = z := ⟨_, rfl⟩
      rw [hrl] at q2 x2
      have K3 : Hid (∀ ws, Below wr.heap.size wr ws → Calls Try.prog 35 #[u3, .slice ra rl rc, .int .i64 1] ws fun e w' => (∃ v' L', kvP L' = addV (kvP L) (encR r) 1 ∧ (∀ p ∈ L', rowOk p.2.r) ∧ e = .returned (.tuple #[v', .int .i64 0]) ∧ TwoM w w' v' u4 L' M) ∧ Below w.heap.size w w') := fun ws hbs => by
        have h := rmore1_any ra rc w u3 L r ws (TwoM_below HTW.out hbs).mv (half_view HHL.out).1 (half_view HHL.out).2 HR0.out (hnx.trans (hbs.mono hnx.size)) HRK.out (fun p hp => by have := HHL.out.cnt p hp; omega) (by have := HHL.out.len; omega)
        rw [hrl] at h
        refine h.mono ?_
        rintro e w' ⟨⟨v', L', h1, h2, h3, h4, h5⟩, hb⟩
        exact ⟨⟨v', L', h1, h2, h3, TwoM_step (TwoM_below HTW.out hbs) h4 h5⟩, hb⟩
      have K4 : Hid (∀ ws, Below wr.heap.size wr ws → Calls Try.prog 35 #[u4, .slice ra rl rc, .int .i64 1] ws fun e w' => (∃ v' M', kvP M' = addV (kvP M) (encR r) 1 ∧ (∀ p ∈ M', rowOk p.2.r) ∧ e = .returned (.tuple #[v', .int .i64 0]) ∧ TwoM w w' u3 v' L M') ∧ Below w.heap.size w w') := fun ws hbs => by
        have h := rmore1_any ra rc w u4 M r ws (TwoM_below HTW.out hbs).mu (half_view HHM.out).1 (half_view HHM.out).2 HR0.out (hnx.trans (hbs.mono hnx.size)) HRK.out (fun p hp => by have := HHM.out.cnt p hp; omega) (by have := HHM.out.len; omega)
        rw [hrl] at h
        refine h.mono ?_
        rintro e w' ⟨⟨v', L', h1, h2, h3, h4, h5⟩, hb⟩
        exact ⟨⟨v', L', h1, h2, h3, (TwoM_step (TwoM_below HTW.out hbs).symm h4 h5).symm⟩, hb⟩
      clear x1 x2 x3 hcv hrl
      have KS : Hid (∀ w1 : World, Calls Try.prog 34 #[.agg #[.int .i64 kd, .slice ra rl rc]] w1 fun e w' => e = .returned (.int .i64 (moreOf kd)) ∧ Below w1.heap.size w1 w') := fun w1 => sign_any kd ra rl rc w1
      have i1 : (0 : Int) ≤ (k : Int) := by omega
      have i2 : (k : Int) < (n : Int) := by omega
      have hmo : moreOf kd = 1 ∨ moreOf kd = -1 := by unfold moreOf; split <;> simp
      rcases hmo with hmo | hmo
      · rw [hmo] at KS HST
        clear hmo
        go_wp2_with (first
          | (go_at_call 34; refine (KS.out _).mono ?_; rintro e ws ⟨rfl, hbs⟩; have q2s := cell_later hbs q2; have q1s := cell_later hbs q1)
          | (go_at_call 35; refine (K3.out ws hbs).mono ?_; rintro e w4 ⟨⟨v4, L4, hk4, hr4, rfl, ht4⟩, hb4⟩))
        have HH := half_step HHL.out (by omega) HRK.out hk4 hr4
        go_roundw
        case rel => exact ⟨k + 1, L4, M, by omega, by go_num, ht4, HH.1, half_mono HHM.out (by omega), fun z => by rw [HST.out, HH.2, ← HSUM.out]; omega, hb4⟩
        case measure => simp [intOf]; omega
      · rw [hmo] at KS HST
        clear hmo
        go_wp2_with (first
          | (go_at_call 34; refine (KS.out _).mono ?_; rintro e ws ⟨rfl, hbs⟩; have q2s := cell_later hbs q2; have q1s := cell_later hbs q1)
          | (go_at_call 35; refine (K4.out ws hbs).mono ?_; rintro e w4 ⟨⟨v4, L4, hk4, hr4, rfl, ht4⟩, hb4⟩))
        have HH := half_step HHM.out (by omega) HRK.out hk4 hr4
        go_roundw
        case rel => exact ⟨k + 1, L, L4, by omega, by go_num, ht4, half_mono HHL.out (by omega), HH.1, fun z => by
          rw [HST.out, HH.2, ← HSUM.out]
          split <;> omega, hb4⟩
        case measure => simp [intOf]; omega
    · have HT : Hid (l.take k = l) := List.take_of_length_le (by rw [HN.out]; omega)
      obtain ⟨a3, c3, hv3, _⟩ := MV_len HTW.out.mv
      obtain ⟨a4, c4, hv4, _⟩ := MV_len HTW.out.mu
      subst hv3 hv4
      have hvl := half_view HHL.out
      have hvm := half_view HHM.out
      have KD := diffOf_any a4 a3 c4 c3 (outOf M) (outOf L) wr (MV_view HTW.out.mu) (MV_view HTW.out.mv) hvm.2 hvl.2 (by have := hvm.1.1; omega) (by have := hvl.1.1; omega)
      rw [out_len, out_len] at KD
      have HVL : Hid (viewErr (outOf L) = 0 ∧ viewErr (outOf M) = 0) := ⟨viewErr_ok hvl.1, viewErr_ok hvm.1⟩
      obtain ⟨ll, hll⟩ : ∃ z, L.length = z := ⟨_, rfl⟩
      obtain ⟨lm, hlm⟩ : ∃ z, M.length = z := ⟨_, rfl⟩
      rw [hll, hlm] at KD
      rw [hll, hlm]
      clear hvl hvm hll hlm
      go_wp2_with fail
      refine KD.mono ?_
      rintro e w9 ⟨hres, hb9⟩
      have h9 := hnx.trans (hb9.mono hnx.size)
      rcases hres with ⟨h1, _⟩ | ⟨_, h1, _⟩ | ⟨_, _, N, h2, h3, h4, h5⟩
      · exact absurd HVL.out.2 h1
      · exact absurd HVL.out.1 h1
      · have HG : Hid (∀ z, getK (kvOf N) z = sumK l z) := fun z => by
          have h := HSUM.out z
          rw [HT.out] at h
          rw [h4]; exact h
        have hsm : (madeL N).length ≤ 4096 := by
          obtain ⟨out, ho1, ho2⟩ := keyed_out (net_at hwl HF.out l.length (Nat.le_refl _)).key
          rw [List.take_length] at ho1
          have hup := (net_at hwl HF.out l.length (Nat.le_refl _)).up
          rw [List.take_length] at hup
          have e1 : madeL N = madeL out := made_same h3 (by rw [ho1]; exact hup) h2 ho2 (fun z => by rw [HG.out, ho1, net_get_sum])
          rw [e1, made_len, ho1]
          exact Nat.le_trans (sumAbs_net hwl HF.out) HF.out.1
        rcases h5 with ⟨h6, _⟩ | ⟨_, oa, oc, rfl, hch⟩
        · omega
        · have H2 : Hid (∀ c ∈ N, rowOk c.r) := h2
          have H3 : Hid (rising (kvOf N)) := h3
          have HCH : Hid (chgsAt w9 oa (madeL N)) := hch
          obtain ⟨kl, hkl⟩ : ∃ z, (madeL N).length = z := ⟨_, rfl⟩
          have HKL : Hid ((madeL N).length = kl) := hkl
          rw [hkl]
          clear h2 h3 h4 hsm hch hkl KD
          go_wp2
          go_ret
          exact ⟨⟨N, oa, oc, H2.out, H3.out, HG.out, ret_slice HKL.out.symm, HCH.out⟩, h9⟩
end Go.Proofs.Ytkjiaeolodemlaf.ch
