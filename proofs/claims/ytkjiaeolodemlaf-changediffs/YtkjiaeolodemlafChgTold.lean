/- The document's told: Deletes, and Inserts, of rows that rise, each so often. -/
import Derived.Test.YtkjiaeolodemlafChgCopy
import Derived.Test.YtkjiaeolodemlafChgUndo
namespace Go.Proofs.Ytkjiaeolodemlaf.ch
open Go.ChangeShapes Go.WideShapes Go.ChangeAt Go.RowKit Go.Maps Go.WideMaps
open vl
set_option linter.unusedVariables false
set_option linter.unusedSimpArgs false

/-- rows in memory, and numbers -/
def rowsAt (w : World) (a : Option Addr) (l : List Cnt) : Prop := ∀ i, i < l.length → ∃ b off ra rc, a = some ⟨b, off, none⟩ ∧ w.cell? ⟨b, off + i, none⟩ = some (.slice ra (l.getD i default).r.length rc) ∧ vl.rowAt w ra (l.getD i default).r
def numsAt (w : World) (a : Option Addr) (l : List Cnt) : Prop := ∀ i, i < l.length → ∃ b off, a = some ⟨b, off, none⟩ ∧ w.cell? ⟨b, off + i, none⟩ = some (.int .i64 (l.getD i default).n)
theorem rowsAt_below {w w' : World} {a : Option Addr} {l : List Cnt} (h : rowsAt w a l) (hb : Below w.heap.size w w') : rowsAt w' a l := by
  intro i hi
  obtain ⟨b, o, ra, rc, e, x1, x2⟩ := h i hi
  exact ⟨b, o, ra, rc, e, cell_later hb x1, rowAt_below x2 hb⟩
theorem numsAt_below {w w' : World} {a : Option Addr} {l : List Cnt} (h : numsAt w a l) (hb : Below w.heap.size w w') : numsAt w' a l := by
  intro i hi
  obtain ⟨b, o, e, x1⟩ := h i hi
  exact ⟨b, o, e, cell_later hb x1⟩
/-- the changes of one turn -/
def turnL (t : Int) (l : List Cnt) : List Chg := l.flatMap fun c => List.replicate (c.n * t).toNat ⟨if t < 0 then 2 else 1, c.r⟩
theorem turn_neg (l : List Cnt) : turnL (-1) l = dels l := by
  unfold turnL dels
  congr 1
  funext c
  rw [show c.n * -1 = -c.n by omega]
  rfl
theorem turn_pos (l : List Cnt) : turnL 1 l = inss l := by
  unfold turnL inss
  congr 1
  funext c
  rw [Int.mul_one]
  rfl
theorem turn_snoc (t : Int) (l : List Cnt) (c : Cnt) : turnL t (l ++ [c]) = turnL t l ++ List.replicate (c.n * t).toNat ⟨if t < 0 then 2 else 1, c.r⟩ := by
  unfold turnL; rw [List.flatMap_append]; simp
theorem turn_take (t : Int) (l : List Cnt) (k : Nat) : ∃ m, turnL t l = turnL t (l.take k) ++ m := by
  refine ⟨turnL t (l.drop k), ?_⟩
  unfold turnL
  rw [← List.flatMap_append, List.take_append_drop]
/-- what told answers -/
def toldRes (l : List Cnt) (e : Ending) (w' : World) : Prop :=
  (4096 < (madeL l).length ∧ e = .returned (.tuple #[.slice none 0 0, .bool false])) ∨
  ((madeL l).length ≤ 4096 ∧ ∃ ad cap, e = .returned (.tuple #[.slice ad (madeL l).length cap, .bool true]) ∧ chgsAt w' ad (madeL l))
/-- the front of what told has made: so many turns, rows and times -/
def frontL (t : Int) (l : List Cnt) (i k : Nat) : List Chg := (if t = -1 then [] else dels l) ++ turnL t (l.take i) ++ List.replicate k ⟨if t < 0 then 2 else 1, (l.getD i default).r⟩

theorem wpList_appC {ops : Array Oper} {rest : List Oper} {o : Oper} {a : Act} {Q : Exit → Act → World → Prop} (hgd : o.guard = none) (s x : Operand)
    (hop : o.op = .call { callee := .builtin .append, args := #[s, x], argTypes := #[23, 23] })
    (base : Nat) (v : Value) (l : List (Int × Value)) (n : Int) (ad : Option Addr) (rl cap : Nat) (w1 : World) (ln : Nat) (hln : l.length = ln) (ho : w1.ownsRow base 58 2 v ln (flatC l)) (hl : ln ≤ 1000000000) (hb : base ≤ w1.heap.size)
    (hs : a.eval s = v) (hx : a.eval x = .slice (some ⟨w1.heap.size, 0, none⟩) 1 1)
    (h : ∀ g cap2 w2, w2.ownsRow base 58 2 (.slice (some ⟨g, 0, none⟩) (ln + 1) cap2) (ln + 1) (flatC (l ++ [(n, .slice ad rl cap)])) → (w1.alloc (.cells #[.int .i64 n, .slice ad rl cap] 58)).grownBy w2 v.ownBlock → (v.ownBlock = some g ∨ g = w1.heap.size + 1) → g < w2.heap.size → wpList Try.prog ops Q rest (a.put o.dst (.slice (some ⟨g, 0, none⟩) (ln + 1) cap2)) w2) :
    wpList Try.prog ops Q (o :: rest) a (w1.alloc (.cells #[.int .i64 n, .slice ad rl cap] 58)) := by
  obtain ⟨i0, hi, hz0, hz1, hz2⟩ := info_parts infoG
  refine wpList_append_lies _ hgd s x 23 hop base 58 i0 (.agg #[.int .i64 0, .slice none 0 0]) 2 32 Try.underlying23 hi hz0 hz1 hz2 rfl (by decide) v ln (flatC l) hs
    (ho.alloc _) ⟨w1.heap.size, 0, none⟩ 1 1 [.int .i64 n, .slice ad rl cap] hx rfl (cell_two_new _ _ _ _) (by intro u hu; simp at hu; rcases hu with rfl | rfl <;> rfl) (by decide) (by unfold maxLen; omega) (by omega) (by simp; omega) (w1.heap.size + 1) (by simp) ?_
  intro g cap2 w2 h2 h3 h4 h5
  exact h g cap2 w2 (by rw [flatC_snoc]; exact h2) h3 h4 h5
theorem drew_below {w w1 : World} (h : Below w.heap.size w w1) : Below w.drew.heap.size w.drew w1 := ⟨h.os, h.tape, h.output, h.size, h.block⟩
/-- a front is no longer than the whole -/
theorem front_neg (l : List Cnt) (j : Nat) (hj : j < l.length) (q : Nat) (hq : q ≤ ((l.getD j default).n * -1).toNat) : (dels (l.take j)).length + q ≤ (madeL l).length := by
  have h1 := dels_take l (j + 1)
  rw [takeV l j hj, dels_snoc, List.length_append, List.length_replicate] at h1
  unfold madeL
  rw [List.length_append]
  omega
theorem front_pos (l : List Cnt) (j : Nat) (hj : j < l.length) (q : Nat) (hq : q ≤ ((l.getD j default).n * 1).toNat) : (dels l).length + (inss (l.take j)).length + q ≤ (madeL l).length := by
  have h1 := inss_take l (j + 1)
  rw [takeV l j hj, inss_snoc, List.length_append, List.length_replicate] at h1
  unfold madeL
  rw [List.length_append]
  omega
theorem OS_len {w : World} {base : Nat} {v : Value} {l : List Chg} (h : OS w base v l) : ∃ ad cap, v = .slice ad l.length cap := by
  obtain ⟨p, h1, h2, _⟩ := h.r
  obtain ⟨ad, cap, hv, _⟩ := row_form h2
  exact ⟨ad, cap, by rw [hv, h1]⟩
theorem ret_told {ad : Option Addr} {cap a b : Nat} (h : a = b) : Ending.returned (.tuple #[.slice ad a cap, .bool true]) = .returned (.tuple #[.slice ad b cap, .bool true]) := by rw [h]

set_option maxRecDepth 100000 in
set_option maxHeartbeats 8000000 in
theorem told_any (a b : Option Addr) (ca cb : Nat) (l : List Cnt) (w : World) (hra : rowsAt w a l) (hnb : numsAt w b l) (hok : ∀ c ∈ l, rowOk c.r) (hcn : ∀ c ∈ l, -10000000000 ≤ c.n ∧ c.n ≤ 10000000000) (hl : l.length ≤ 1000000) :
    Calls Try.prog 26 #[.slice a l.length ca, .slice b l.length cb] w fun e w' => toldRes l e w' ∧ Below w.heap.size w w' := by
  obtain ⟨n, hn⟩ : ∃ n, l.length = n := ⟨_, rfl⟩
  have HN : Hid (l.length = n) := hn
  have HRA : Hid (rowsAt w a l) := hra
  have HNB : Hid (numsAt w b l) := hnb
  have HOK : Hid (∀ c ∈ l, rowOk c.r) := hok
  have HCN : Hid (∀ c ∈ l, -10000000000 ≤ c.n ∧ c.n ≤ 10000000000) := hcn
  rw [hn] at hl ⊢
  clear hra hnb hok hcn hn
  go_enter Try.func26, Try.ntmps26
  go_wp2
  go_loopw [6, 7] (fun v t wr => ∃ x : Int, t = .int .i64 x ∧ ((x = -1 ∧ OS wr w.heap.size v []) ∨ (x = 1 ∧ OS wr w.heap.size v (dels l) ∧ (dels l).length ≤ 4096) ∨ (x = 3 ∧ OS wr w.heap.size v (madeL l) ∧ (madeL l).length ≤ 4096)) ∧ Below w.heap.size w wr) (fun _ t _ => (3 - intOf t).toNat)
  case atStart => exact ⟨-1, rfl, .inl ⟨rfl, Nat.le_refl _, [], rfl, World.ownsRow_nil _ _ _ _, fun i hi => absurd hi (Nat.not_lt_zero i)⟩, Below.refl _ _⟩
  case round =>
    obtain ⟨x, rfl, hx, hnx⟩ := hrel
    obtain ⟨wo, hwo⟩ : ∃ z, z = wr := ⟨_, rfl⟩
    subst hwo
    rcases hx with ⟨rfl, hos⟩ | ⟨rfl, hos, hdl⟩ | ⟨rfl, hos, hml⟩
    · have HOS : Hid (OS wo w.heap.size u6 []) := hos
      clear hos
      go_wp2
      go_loopw [6, 8] (fun v i wr => ∃ j : Nat, j ≤ n ∧ i = .int .i64 j ∧ OS wr w.heap.size v (dels (l.take j)) ∧ (dels (l.take j)).length ≤ 4096 ∧ Below w.heap.size w wr) (fun _ i _ => n - (intOf i).toNat)
      case atStart => exact ⟨0, Nat.zero_le _, rfl, by simpa [dels] using HOS.out, by simp [dels], hnx⟩
      case round =>
        obtain ⟨j, hj, rfl, hos2, hlen2, hnx2⟩ := hrel
        obtain ⟨wm, hwm⟩ : ∃ z, z = wr := ⟨_, rfl⟩
        subst hwm
        have HO2 : Hid (OS wm w.heap.size u6 (dels (l.take j))) := hos2
        have HL2 : Hid ((dels (l.take j)).length ≤ 4096) := hlen2
        clear hos2 hlen2
        by_cases hjn : j < n
        · have hjl : j < l.length := by rw [HN.out]; exact hjn
          obtain ⟨ba, oa, ra, rc, e, x1, x2⟩ := HRA.out j hjl
          subst e
          obtain ⟨bb, ob, e, y1⟩ := HNB.out j hjl
          subst e
          have HRK : Hid (rowOk (l.getD j default).r) := HOK.out _ (mem_getD hjl)
          have hcb := HCN.out _ (mem_getD hjl)
          have HFR := front_neg l j hjl
          have HTK : Hid (dels (l.take (j + 1)) = dels (l.take j) ++ List.replicate ((l.getD j default).n * -1).toNat ⟨2, (l.getD j default).r⟩) := by
            show dels (l.take (j + 1)) = _
            rw [takeV l j hjl, dels_snoc, show (l.getD j default).n * -1 = -(l.getD j default).n by omega]
          have HR0 : Hid (vl.rowAt w ra (l.getD j default).r) := x2
          obtain ⟨⟨r, nj⟩, hcv⟩ : ∃ c, l.getD j default = c := ⟨_, rfl⟩
          rw [hcv] at x1 y1 HRK hcb HFR HTK HR0
          dsimp only at x1 y1 HRK hcb HFR HTK HR0
          clear hcv x2
          have hmul : IntKind.i64.wrap (nj * -1) = nj * -1 := by rw [wrap_is]; omega
          obtain ⟨d, hd⟩ : ∃ z, (nj * -1).toNat = z := ⟨_, rfl⟩
          rw [hd] at HFR HTK
          have hd1 : nj * -1 ≤ (d : Int) := by omega
          have hd2 : (d : Int) ≤ nj * -1 ∨ d = 0 := by omega
          obtain ⟨pm, hpm⟩ : ∃ z, nj * -1 = z := ⟨_, rfl⟩
          rw [hpm] at hmul hd1 hd2
          have hpm2 : nj * -1 = pm := hpm
          clear hd hpm
          obtain ⟨rl, hrl⟩ : ∃ z, r.length = z := ⟨_, rfl⟩
          have HRL : Hid (r.length = rl) := hrl
          rw [hrl] at x1
          have KC : Hid (∀ w1, Below w.heap.size w w1 → Calls Try.prog 36 #[.slice ra rl rc] w1 fun e w' => (∃ ad c, e = .returned (.slice ad rl c) ∧ ownV w' w1.heap.size (.slice ad rl c) r) ∧ Below w1.heap.size w1 w') := fun w1 hb => by
            rw [← hrl]; exact copy_any ra rc r w1 (rowAt_below HR0.out hb) (by have := HRK.out.1; omega)
          clear hrl
          have i1 : (0 : Int) ≤ (j : Int) := by omega
          have i2 : (j : Int) < (n : Int) := by omega
          go_wp2
          go_loopw [6, 10] (fun v k wr => ∃ q : Nat, q ≤ d ∧ k = .int .i64 q ∧ OS wr w.heap.size v (dels (l.take j) ++ List.replicate q ⟨2, r⟩) ∧ (dels (l.take j) ++ List.replicate q (⟨2, r⟩ : Chg)).length ≤ 4096 ∧ Below w.heap.size w wr) (fun _ k _ => d - (intOf k).toNat)
          case atStart => exact ⟨0, Nat.zero_le _, rfl, by simpa using HO2.out, by simpa using HL2.out, hnx2⟩
          case round =>
            obtain ⟨q, hq, rfl, hos3, hlen3, hnx3⟩ := hrel
            have HO3 : Hid (OS wr w.heap.size u6 (dels (l.take j) ++ List.replicate q ⟨2, r⟩)) := hos3
            have HL3 : Hid ((dels (l.take j) ++ List.replicate q (⟨2, r⟩ : Chg)).length ≤ 4096) := hlen3
            have z1 := cell_later hnx3 x1
            have z2 := cell_later hnx3 y1
            obtain ⟨oa2, oc2, hv6⟩ := OS_len hos3
            subst hv6
            obtain ⟨p, hpl, hpo, hpr⟩ := hos3.r
            have HPL : Hid (p.length = (dels (l.take j) ++ List.replicate q (⟨2, r⟩ : Chg)).length) := hpl
            obtain ⟨pn, hpn⟩ : ∃ z, (dels (l.take j) ++ List.replicate q (⟨2, r⟩ : Chg)).length = z := ⟨_, rfl⟩
            have HPN : Hid ((dels (l.take j) ++ List.replicate q (⟨2, r⟩ : Chg)).length = pn) := hpn
            rw [hpl] at hpo
            rw [hpn] at hpo HO3 hpr hlen3 ⊢
            have HPO : Hid (wr.ownsRow w.heap.size 58 2 (.slice oa2 pn oc2) pn (flatC p)) := hpo
            have HPR : Hid (rowsC wr w.heap.size (fun g => (Value.slice oa2 pn oc2).ownBlock = some g) p (dels (l.take j) ++ List.replicate q ⟨2, r⟩)) := hpr
            have hlow := HO3.out.low
            clear hos3 hpl hpo hpr hpn
            by_cases hqd : q < d
            · have hqI : (q : Int) < pm := by omega
              by_cases hfull : pn = 4096
              · subst hfull
                have HBIG : Hid (4096 < (madeL l).length) := by
                  show 4096 < (madeL l).length
                  have h1 := HFR (q + 1) (by omega)
                  have h2 := HPN.out
                  rw [List.length_append, List.length_replicate] at h2
                  
                  omega
                go_wp2
                go_ret2
                exact ⟨.inl ⟨HBIG.out, rfl⟩, hnx3⟩
              · have hfI : ((pn : Int) == 4096) = false := by rw [beq_eq_false_iff_ne]; omega
                go_wp2_with (first
                  | (go_at_call 36; refine (KC.out _ hnx3).mono ?_; rintro e w1 ⟨⟨ad, cap, rfl, hov⟩, hb1⟩; have HO1 : Hid (w1.ownsRow w.heap.size 58 2 (.slice oa2 pn oc2) pn (flatC p)) := own_below HPO.out hb1)
                  | (at_builtin; refine wpList_appC rfl (.tmp 36) (.tmp 44) rfl w.heap.size _ p 2 ad rl cap w1 pn (HPL.out.trans HPN.out) HO1.out (by omega) (Nat.le_trans hlow hb1.size) rfl rfl ?_; intro g cap2 w3 hown2 hgrow2 hat2 hlt2))
                have HST := OS_step (r := r) (n := 2) (ad := ad) (cap := cap) (g := g) (cap2 := cap2) (w1 := w1) (w2 := w3) HO3.out HPL.out (by rw [HPL.out, HPN.out]; exact HPO.out) HPR.out (drew_below hb1) (by rw [HRL.out]; exact hov) (by rw [HPL.out, HPN.out, HRL.out]; exact hown2) (by rw [HRL.out]; exact hgrow2) hat2
                rw [HPL.out, HPN.out] at HST
                go_roundw
                case rel => exact ⟨q + 1, by omega, by go_num, by rw [rep_snoc]; exact HST.1, by rw [rep_snoc, List.length_append, HPN.out, List.length_singleton]; omega, hnx3.trans HST.2⟩
                case measure => simp [intOf]; omega
            · have hqe : q = d := by omega
              subst hqe
              have hqI : ¬ (q : Int) < pm := by omega
              go_wp2
              go_roundw
              case rel => exact ⟨j + 1, by omega, by go_num, by rw [HTK.out]; exact HO3.out, by rw [HTK.out]; exact HL3.out, hnx3⟩
              case measure => simp [intOf]; omega
        · have HT : Hid (l.take j = l) := List.take_of_length_le (by rw [HN.out]; omega)
          rw [HT.out] at HO2 HL2
          go_wp2
          go_roundw
          case rel => exact ⟨1, rfl, .inr (.inl ⟨rfl, HO2.out, HL2.out⟩), hnx2⟩
          case measure => simp [intOf]
    · have HOS : Hid (OS wo w.heap.size u6 (dels l)) := hos
      clear hos
      go_wp2
      go_loopw [6, 8] (fun v i wr => ∃ j : Nat, j ≤ n ∧ i = .int .i64 j ∧ OS wr w.heap.size v (dels l ++ inss (l.take j)) ∧ (dels l ++ inss (l.take j)).length ≤ 4096 ∧ Below w.heap.size w wr) (fun _ i _ => n - (intOf i).toNat)
      case atStart => exact ⟨0, Nat.zero_le _, rfl, by simpa [dels, inss] using HOS.out, by simpa [dels, inss] using hdl, hnx⟩
      case round =>
        obtain ⟨j, hj, rfl, hos2, hlen2, hnx2⟩ := hrel
        obtain ⟨wm, hwm⟩ : ∃ z, z = wr := ⟨_, rfl⟩
        subst hwm
        have HO2 : Hid (OS wm w.heap.size u6 (dels l ++ inss (l.take j))) := hos2
        have HL2 : Hid ((dels l ++ inss (l.take j)).length ≤ 4096) := hlen2
        clear hos2 hlen2
        by_cases hjn : j < n
        · have hjl : j < l.length := by rw [HN.out]; exact hjn
          obtain ⟨ba, oa, ra, rc, e, x1, x2⟩ := HRA.out j hjl
          subst e
          obtain ⟨bb, ob, e, y1⟩ := HNB.out j hjl
          subst e
          have HRK : Hid (rowOk (l.getD j default).r) := HOK.out _ (mem_getD hjl)
          have hcb := HCN.out _ (mem_getD hjl)
          have HFR := front_pos l j hjl
          have HTK : Hid (dels l ++ inss (l.take (j + 1)) = dels l ++ inss (l.take j) ++ List.replicate ((l.getD j default).n * 1).toNat ⟨1, (l.getD j default).r⟩) := by
            show dels l ++ inss (l.take (j + 1)) = _
            rw [takeV l j hjl, inss_snoc, List.append_assoc, show (l.getD j default).n * 1 = (l.getD j default).n by omega]
          have HR0 : Hid (vl.rowAt w ra (l.getD j default).r) := x2
          obtain ⟨⟨r, nj⟩, hcv⟩ : ∃ c, l.getD j default = c := ⟨_, rfl⟩
          rw [hcv] at x1 y1 HRK hcb HFR HTK HR0
          dsimp only at x1 y1 HRK hcb HFR HTK HR0
          clear hcv x2
          have hmul : IntKind.i64.wrap (nj * 1) = nj * 1 := by rw [wrap_is]; omega
          obtain ⟨d, hd⟩ : ∃ z, (nj * 1).toNat = z := ⟨_, rfl⟩
          rw [hd] at HFR HTK
          have hd1 : nj * 1 ≤ (d : Int) := by omega
          have hd2 : (d : Int) ≤ nj * 1 ∨ d = 0 := by omega
          obtain ⟨pm, hpm⟩ : ∃ z, nj * 1 = z := ⟨_, rfl⟩
          rw [hpm] at hmul hd1 hd2
          have hpm2 : nj * 1 = pm := hpm
          clear hd hpm
          obtain ⟨rl, hrl⟩ : ∃ z, r.length = z := ⟨_, rfl⟩
          have HRL : Hid (r.length = rl) := hrl
          rw [hrl] at x1
          have KC : Hid (∀ w1, Below w.heap.size w w1 → Calls Try.prog 36 #[.slice ra rl rc] w1 fun e w' => (∃ ad c, e = .returned (.slice ad rl c) ∧ ownV w' w1.heap.size (.slice ad rl c) r) ∧ Below w1.heap.size w1 w') := fun w1 hb => by
            rw [← hrl]; exact copy_any ra rc r w1 (rowAt_below HR0.out hb) (by have := HRK.out.1; omega)
          clear hrl
          have i1 : (0 : Int) ≤ (j : Int) := by omega
          have i2 : (j : Int) < (n : Int) := by omega
          go_wp2
          go_loopw [6, 10] (fun v k wr => ∃ q : Nat, q ≤ d ∧ k = .int .i64 q ∧ OS wr w.heap.size v (dels l ++ inss (l.take j) ++ List.replicate q ⟨1, r⟩) ∧ (dels l ++ inss (l.take j) ++ List.replicate q (⟨1, r⟩ : Chg)).length ≤ 4096 ∧ Below w.heap.size w wr) (fun _ k _ => d - (intOf k).toNat)
          case atStart => exact ⟨0, Nat.zero_le _, rfl, by simpa using HO2.out, by simpa using HL2.out, hnx2⟩
          case round =>
            obtain ⟨q, hq, rfl, hos3, hlen3, hnx3⟩ := hrel
            have HO3 : Hid (OS wr w.heap.size u6 (dels l ++ inss (l.take j) ++ List.replicate q ⟨1, r⟩)) := hos3
            have HL3 : Hid ((dels l ++ inss (l.take j) ++ List.replicate q (⟨1, r⟩ : Chg)).length ≤ 4096) := hlen3
            have z1 := cell_later hnx3 x1
            have z2 := cell_later hnx3 y1
            obtain ⟨oa2, oc2, hv6⟩ := OS_len hos3
            subst hv6
            obtain ⟨p, hpl, hpo, hpr⟩ := hos3.r
            have HPL : Hid (p.length = (dels l ++ inss (l.take j) ++ List.replicate q (⟨1, r⟩ : Chg)).length) := hpl
            obtain ⟨pn, hpn⟩ : ∃ z, (dels l ++ inss (l.take j) ++ List.replicate q (⟨1, r⟩ : Chg)).length = z := ⟨_, rfl⟩
            have HPN : Hid ((dels l ++ inss (l.take j) ++ List.replicate q (⟨1, r⟩ : Chg)).length = pn) := hpn
            rw [hpl] at hpo
            rw [hpn] at hpo HO3 hpr hlen3 ⊢
            have HPO : Hid (wr.ownsRow w.heap.size 58 2 (.slice oa2 pn oc2) pn (flatC p)) := hpo
            have HPR : Hid (rowsC wr w.heap.size (fun g => (Value.slice oa2 pn oc2).ownBlock = some g) p (dels l ++ inss (l.take j) ++ List.replicate q ⟨1, r⟩)) := hpr
            have hlow := HO3.out.low
            clear hos3 hpl hpo hpr hpn
            by_cases hqd : q < d
            · have hqI : (q : Int) < pm := by omega
              by_cases hfull : pn = 4096
              · subst hfull
                have HBIG : Hid (4096 < (madeL l).length) := by
                  show 4096 < (madeL l).length
                  have h1 := HFR (q + 1) (by omega)
                  have h2 := HPN.out
                  rw [List.length_append, List.length_replicate] at h2
                  rw [List.length_append] at h2
                  omega
                go_wp2
                go_ret2
                exact ⟨.inl ⟨HBIG.out, rfl⟩, hnx3⟩
              · have hfI : ((pn : Int) == 4096) = false := by rw [beq_eq_false_iff_ne]; omega
                go_wp2_with (first
                  | (go_at_call 36; refine (KC.out _ hnx3).mono ?_; rintro e w1 ⟨⟨ad, cap, rfl, hov⟩, hb1⟩; have HO1 : Hid (w1.ownsRow w.heap.size 58 2 (.slice oa2 pn oc2) pn (flatC p)) := own_below HPO.out hb1)
                  | (at_builtin; refine wpList_appC rfl (.tmp 36) (.tmp 44) rfl w.heap.size _ p 1 ad rl cap w1 pn (HPL.out.trans HPN.out) HO1.out (by omega) (Nat.le_trans hlow hb1.size) rfl rfl ?_; intro g cap2 w3 hown2 hgrow2 hat2 hlt2))
                have HST := OS_step (r := r) (n := 1) (ad := ad) (cap := cap) (g := g) (cap2 := cap2) (w1 := w1) (w2 := w3) HO3.out HPL.out (by rw [HPL.out, HPN.out]; exact HPO.out) HPR.out (drew_below hb1) (by rw [HRL.out]; exact hov) (by rw [HPL.out, HPN.out, HRL.out]; exact hown2) (by rw [HRL.out]; exact hgrow2) hat2
                rw [HPL.out, HPN.out] at HST
                go_roundw
                case rel => exact ⟨q + 1, by omega, by go_num, by rw [rep_snoc]; exact HST.1, by rw [rep_snoc, List.length_append, HPN.out, List.length_singleton]; omega, hnx3.trans HST.2⟩
                case measure => simp [intOf]; omega
            · have hqe : q = d := by omega
              subst hqe
              have hqI : ¬ (q : Int) < pm := by omega
              go_wp2
              go_roundw
              case rel => exact ⟨j + 1, by omega, by go_num, by rw [HTK.out]; exact HO3.out, by rw [HTK.out]; exact HL3.out, hnx3⟩
              case measure => simp [intOf]; omega
        · have HT : Hid (l.take j = l) := List.take_of_length_le (by rw [HN.out]; omega)
          rw [HT.out] at HO2 HL2
          go_wp2
          go_roundw
          case rel => exact ⟨3, rfl, .inr (.inr ⟨rfl, HO2.out, HL2.out⟩), hnx2⟩
          case measure => simp [intOf]
    · obtain ⟨oa2, oc2, hv6⟩ := OS_len hos
      subst hv6
      have HOS : Hid (OS wo w.heap.size (.slice oa2 (madeL l).length oc2) (madeL l)) := hos
      have HML : Hid ((madeL l).length ≤ 4096) := hml
      obtain ⟨ml, hml2⟩ : ∃ z, (madeL l).length = z := ⟨_, rfl⟩
      have HM2 : Hid ((madeL l).length = ml) := hml2
      rw [hml2]
      clear hos hml hml2
      go_wp2
      go_ret2
      exact ⟨.inr ⟨HML.out, oa2, oc2, ret_told HM2.out.symm, (OS_chgs HOS.out).1⟩, hnx⟩
end Go.Proofs.Ytkjiaeolodemlaf.ch
