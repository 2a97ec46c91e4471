/- E4: the document's figure. -/
import Derived.Test.YtcpanmaahhiioaaGreatMgBatI
import Derived.Test.YtcpanmaahhiioaaGreatMgValA
import Derived.Test.YtcpanmaahhiioaaGreatMgValC
import Derived.BigRegion
namespace Go.Proofs.YtcpanmaahhiioaaGreat.bt
open Go.ChangeShapes Go.WideShapes Go.ChangeAt Go.RowKit
open vl pl
set_option linter.unusedVariables false
set_option linter.unusedSimpArgs false
theorem cmpC_in (c d : Cel) : cmpC c d = -1 ∨ cmpC c d = 0 ∨ cmpC c d = 1 := by
  have h1 : ∀ x y : Int, ordI x y = -1 ∨ ordI x y = 0 ∨ ordI x y = 1 := fun x y => by
    unfold ordI
    by_cases h1 : x < y
    · rw [if_pos h1]; exact .inl rfl
    · rw [if_neg h1]
      by_cases h2 : y < x
      · rw [if_pos h2]; exact .inr (.inr rfl)
      · rw [if_neg h2]; exact .inr (.inl rfl)
  rw [cmpC_of]
  split
  · split
    · rw [less_cmp]
      split
      · exact .inl rfl
      · split
        · exact .inr (.inl rfl)
        · exact .inr (.inr rfl)
    · exact h1 _ _
  · exact h1 _ _
set_option maxRecDepth 10000 in
set_option maxHeartbeats 1000000 in
theorem rfig1 (a : Option Addr) (cap : Nat) (v : List ch.Cnt) (col : Int) (w : World) (hl : v.length ≤ 1000000) (ha : ch.viewAt w a v) :
    Calls Tryz.prog 62 #[.agg #[.int .i64 1, .int .i64 col], .slice a v.length cap] w fun e w' => e = .returned (celV (⟨2, cntS v, ⟨#[]⟩⟩ : Cel)) ∧ Below w.heap.size w w' := by
  have HA : Hid (ch.viewAt w a v) := ha
  have HS : Hid (∀ k, k < v.length → cntS (v.take (k + 1)) = wrap64 (cntS (v.take k) + (v.getD k default).n)) := fun k h => foldl_take _ _ v k h
  have H0 : Hid (cntS (v.take 0) = 0) := rfl
  have HE : Hid (cntS (v.take v.length) = cntS v) := by show cntS _ = _; rw [List.take_length]
  obtain ⟨CS, hCS⟩ : ∃ f : Nat → Int, ∀ k, cntS (v.take k) = f k := ⟨_, fun _ => rfl⟩
  obtain ⟨cs, hcs⟩ : ∃ z, cntS v = z := ⟨_, rfl⟩
  simp only [hCS, hcs] at HS H0 HE ⊢
  clear hCS hcs ha
  obtain ⟨n, hn⟩ : ∃ n, v.length = n := ⟨_, rfl⟩
  have HN : Hid (v.length = n) := hn
  rw [hn] at HS HE hl ⊢
  clear hn
  unfold celV
  dsimp only
  go_enter Tryz.func62, Tryz.ntmps62
  go_wp2
  generalize hW0 : (World.alloc (World.alloc w _) _) = W0
  have hb0 : Below w.heap.size w W0 := by rw [← hW0]; exact ((Below.refl _ _).alloc (Nat.le_refl _) _).alloc (by simp) _
  have r0 : W0.cell? ⟨w.heap.size + 1, 0, none⟩ = some (.int .i64 0) := by subst hW0; go_simp
  have r1 : W0.cell? ⟨w.heap.size + 1, 1, none⟩ = some (.int .i64 0) := by subst hW0; go_simp
  have r2 : W0.cell? ⟨w.heap.size + 1, 2, none⟩ = some (.string ⟨#[]⟩) := by subst hW0; go_simp
  have g0 : ∀ j, W0.frozen? ⟨w.heap.size + 1, j, none⟩ = false := by intro j; subst hW0; go_simp
  have hlt0 : w.heap.size + 1 < W0.heap.size := World.block_lt_of_cell? _ _ r0
  clear hW0
  go_loopw [5, 6] (fun s i wr => ∃ k : Nat, k ≤ n ∧ i = .int .i64 k ∧ s = .int .i64 (CS k) ∧ Below W0.heap.size W0 wr) (fun _ i _ => n - (intOf i).toNat)
  case atStart => exact ⟨0, Nat.zero_le _, rfl, by rw [H0.out], Below.refl _ _⟩
  case round =>
    obtain ⟨k, hk, rfl, rfl, hnx⟩ := hrel
    have hbr := hb0.trans (hnx.mono hb0.size)
    have hsz := hnx.size
    have c0 := cell_later hnx r0
    have c1 := cell_later hnx r1
    have c2 := cell_later hnx r2
    have f0 : ∀ j, wr.frozen? ⟨w.heap.size + 1, j, none⟩ = false := fun j => (hnx.frozen (p := ⟨w.heap.size + 1, j, none⟩) hlt0).trans (g0 j)
    by_cases hlt : k < n
    · obtain ⟨b, o, ra, rc, e, x1, x2, x3⟩ := HA.out k (by rw [HN.out]; exact hlt)
      subst e
      have q3 := cell_later hbr x3
      have HS1 : Hid (CS (k + 1) = wrap64 (CS k + (v.getD k default).n)) := HS.out k hlt
      obtain ⟨m, hm⟩ : ∃ z, (v.getD k default).n = z := ⟨_, rfl⟩
      rw [hm] at q3 HS1
      have i1 : (0 : Int) ≤ (k : Int) := by omega
      have i2 : (k : Int) < (n : Int) := by omega
      clear x1 x2 x3 hm
      go_wp2
      go_roundw
      case rel => exact ⟨k + 1, by omega, by go_num, by rw [HS1.out], hnx⟩
      case measure => simp [intOf]; omega
    · have hkn : k = n := by omega
      subst hkn
      have HE1 : Hid (CS k = cs) := HE.out
      go_wp2
      exact bodyPost_ret (v := .agg #[.int .i64 2, .int .i64 (CS k), .string ⟨#[]⟩]) (by simp [results, Tryz.results62, go_sem, c0, c1, c2]) rfl ⟨by rw [HE1.out], Below_set3 hbr (by omega) _ _ _⟩
set_option maxRecDepth 10000 in
set_option maxHeartbeats 4000000 in
theorem rfig2 (a : Option Addr) (cap : Nat) (v : List ch.Cnt) (col : Nat) (w : World) (hl : v.length ≤ 1000000) (ha : ch.viewAt w a v) (hc : ∀ c ∈ v, col < c.r.length) (hcl : ∀ c ∈ v, c.r.length ≤ 9223372036854775807) (hk : ∀ c ∈ v, (c.r.getD col default).k = 0 ∨ (c.r.getD col default).k = 2) :
    Calls Tryz.prog 62 #[.agg #[.int .i64 2, .int .i64 (col : Int)], .slice a v.length cap] w fun e w' => e = .returned (celV (v.foldl (sumStep col) noCel)) ∧ Below w.heap.size w w' := by
  have HA : Hid (ch.viewAt w a v) := ha
  have HC : Hid (∀ k, k < v.length → col < (v.getD k default).r.length ∧ (v.getD k default).r.length ≤ 9223372036854775807) := fun k h => ⟨hc _ (getD_mem h), hcl _ (getD_mem h)⟩
  have HK : Hid (∀ k, k < v.length → ((v.getD k default).r.getD col default).k = 0 ∨ ((v.getD k default).r.getD col default).k = 2) := fun k h => hk _ (getD_mem h)
  have HS : Hid (∀ k, k < v.length → (v.take (k + 1)).foldl (sumStep col) noCel = sumStep col ((v.take k).foldl (sumStep col) noCel) (v.getD k default)) := fun k h => foldl_take _ _ v k h
  have H0 : Hid ((v.take 0).foldl (sumStep col) noCel = noCel) := rfl
  have HE : Hid ((v.take v.length).foldl (sumStep col) noCel = v.foldl (sumStep col) noCel) := by show (v.take v.length).foldl _ _ = _; rw [List.take_length]
  obtain ⟨CS, hCS⟩ : ∃ f : Nat → Cel, ∀ k, (v.take k).foldl (sumStep col) noCel = f k := ⟨_, fun _ => rfl⟩
  obtain ⟨cs, hcs⟩ : ∃ z, v.foldl (sumStep col) noCel = z := ⟨_, rfl⟩
  simp only [hCS, hcs] at HS H0 HE ⊢
  clear hCS hcs ha hc hcl
  obtain ⟨n, hn⟩ : ∃ n, v.length = n := ⟨_, rfl⟩
  have HN : Hid (v.length = n) := hn
  rw [hn] at HS HE hl HC ⊢
  clear hn
  unfold celV
  go_enter Tryz.func62, Tryz.ntmps62
  go_wp2
  generalize hW0 : (World.alloc (World.alloc (World.alloc w _) _) _) = W0
  have hb0 : Below w.heap.size w W0 := by rw [← hW0]; exact (((Below.refl _ _).alloc (Nat.le_refl _) _).alloc (by simp) _).alloc (by simp; omega) _
  have a0 : W0.cell? ⟨w.heap.size, 0, none⟩ = some (.int .i64 2) := by subst hW0; go_simp
  have a1 : W0.cell? ⟨w.heap.size, 1, none⟩ = some (.int .i64 (col : Int)) := by subst hW0; go_simp
  have r0 : W0.cell? ⟨w.heap.size + 1, 0, none⟩ = some (.int .i64 0) := by subst hW0; go_simp
  have r1 : W0.cell? ⟨w.heap.size + 1, 1, none⟩ = some (.int .i64 0) := by subst hW0; go_simp
  have r2 : W0.cell? ⟨w.heap.size + 1, 2, none⟩ = some (.string ⟨#[]⟩) := by subst hW0; go_simp
  have g0 : ∀ j, W0.frozen? ⟨w.heap.size + 1, j, none⟩ = false := by intro j; subst hW0; go_simp
  have y0 : W0.cell? ⟨w.heap.size + 1 + 1, 0, none⟩ = some (.int .i64 0) := by subst hW0; go_simp
  have y1 : W0.cell? ⟨w.heap.size + 1 + 1, 1, none⟩ = some (.int .i64 0) := by subst hW0; go_simp
  have y2 : W0.cell? ⟨w.heap.size + 1 + 1, 2, none⟩ = some (.string ⟨#[]⟩) := by subst hW0; go_simp
  have g1 : ∀ j, W0.frozen? ⟨w.heap.size + 1 + 1, j, none⟩ = false := by intro j; subst hW0; go_simp
  have hlt0 : w.heap.size + 1 + 1 < W0.heap.size := World.block_lt_of_cell? _ _ y0
  have HB0 : Hid (Box3 (w.heap.size + 1 + 1) W0 noCel) := ⟨y0, y1, y2, g1⟩
  clear hW0 y0 y1 y2 g1
  go_loopw [8] (fun i wr => ∃ k : Nat, k ≤ n ∧ i = .int .i64 k ∧ Box3 (w.heap.size + 1 + 1) wr (CS k) ∧ Below (w.heap.size + 1 + 1) W0 wr) (fun i _ => n - (intOf i).toNat)
  case atStart => exact ⟨0, Nat.zero_le _, rfl, by rw [H0.out]; exact HB0.out, Below.refl _ _⟩
  case round =>
    obtain ⟨k, hk, rfl, hbox, hnx⟩ := hrel
    have HBX : Hid (Box3 (w.heap.size + 1 + 1) wr (CS k)) := hbox
    have hbr : Below w.heap.size w wr := hb0.trans (hnx.mono (by omega))
    have hsz := hnx.size
    have b0 : wr.cell? ⟨w.heap.size, 0, none⟩ = _ := (hnx.cell (p := ⟨w.heap.size, 0, none⟩) (by show w.heap.size < _; omega)).trans a0
    have b1 : wr.cell? ⟨w.heap.size, 1, none⟩ = _ := (hnx.cell (p := ⟨w.heap.size, 1, none⟩) (by show w.heap.size < _; omega)).trans a1
    have c0 : wr.cell? ⟨w.heap.size + 1, 0, none⟩ = _ := (hnx.cell (p := ⟨w.heap.size + 1, 0, none⟩) (by show w.heap.size + 1 < _; omega)).trans r0
    have c1 : wr.cell? ⟨w.heap.size + 1, 1, none⟩ = _ := (hnx.cell (p := ⟨w.heap.size + 1, 1, none⟩) (by show w.heap.size + 1 < _; omega)).trans r1
    have c2 : wr.cell? ⟨w.heap.size + 1, 2, none⟩ = _ := (hnx.cell (p := ⟨w.heap.size + 1, 2, none⟩) (by show w.heap.size + 1 < _; omega)).trans r2
    have f0 : ∀ j, wr.frozen? ⟨w.heap.size + 1, j, none⟩ = false := fun j => (hnx.frozen (p := ⟨w.heap.size + 1, j, none⟩) (by show w.heap.size + 1 < _; omega)).trans (g0 j)
    clear hbox
    by_cases hlt : k < n
    · obtain ⟨b, o, ra, rc, e, x1, x2, x3⟩ := HA.out k (by rw [HN.out]; exact hlt)
      subst e
      obtain ⟨hcol, hrl⟩ := HC.out k hlt
      obtain ⟨b3, o3, e3, m1, m2, m3⟩ := x2 col hcol
      subst e3
      have q1 := cell_later hbr x1
      have q3 := cell_later hbr x3
      have p1 := cell_later hbr m1
      have p2 := cell_later hbr m2
      have p3 : wr.cell? ⟨b3, o3 + col * 3 + 2, none⟩ = _ := cell_later hbr m3
      have hbb : b < wr.heap.size := World.block_lt_of_cell? _ _ q1
      have hb3 : b3 < wr.heap.size := World.block_lt_of_cell? _ _ p1
      have hSA : w.heap.size < wr.heap.size := World.block_lt_of_cell? _ _ b0
      have i1 : (0 : Int) ≤ (k : Int) := by omega
      have i2 : (k : Int) < (n : Int) := by omega
      have j1 : (0 : Int) ≤ (col : Int) := by omega
      have j2 : (col : Int) < ((v.getD k default).r.length : Int) := by omega
      have HS1 : Hid (CS (k + 1) = sumStep col (CS k) (v.getD k default)) := HS.out k hlt
      have HK2 := HK.out k (by rw [HN.out]; exact hlt)
      unfold sumStep at HS1
      obtain ⟨m, hm⟩ : ∃ z, (v.getD k default).n = z := ⟨_, rfl⟩
      obtain ⟨⟨xk, xn, xs⟩, hx⟩ : ∃ z, (v.getD k default).r.getD col default = z := ⟨_, rfl⟩
      obtain ⟨rl, hrl'⟩ : ∃ z, (v.getD k default).r.length = z := ⟨_, rfl⟩
      rw [hx] at HS1 p1 p2 p3 HK2
      rw [hm] at HS1
      rw [hm] at q3
      rw [hrl'] at q1 j2
      obtain ⟨⟨sk, sn, ss⟩, hs⟩ : ∃ z, CS k = z := ⟨_, rfl⟩
      rw [hs] at HBX HS1
      dsimp only at p1 p2 p3 HS1 HK2
      clear hm hx hrl' hs x1 x2 x3 m1 m2 m3 hcol hrl
      go_wp2
      go_region
      all_goals
        generalize hWa : World.drew (World.alloc wr _) = Wa
        have hba : Below wr.heap.size wr Wa := by subst hWa; exact Below.drew ((Below.refl _ _).alloc (Nat.le_refl _) _)
        have d0 : Wa.cell? ⟨wr.heap.size, 0, none⟩ = some (.int .i64 xk) := by subst hWa; go_simp
        have d1 : Wa.cell? ⟨wr.heap.size, 1, none⟩ = some (.int .i64 xn) := by subst hWa; go_simp
        have d2 : Wa.cell? ⟨wr.heap.size, 2, none⟩ = some (.string xs) := by subst hWa; go_simp
        have HBA : Hid (Box3 (w.heap.size + 1 + 1) Wa ⟨sk, sn, ss⟩) := Box3_below HBX.out hba
        have z0 := HBA.out.k
        have z1 := HBA.out.n
        have z2 := HBA.out.s
        have zf := HBA.out.f
        dsimp only at z0 z1 z2
        have t0 := cell_later hba b0
        have q4 := cell_later hba q3
        have hna : Below (w.heap.size + 1 + 1) W0 Wa := hnx.trans (hba.mono (by omega))
        clear hWa b0 b1 c0 c1 c2 q1 q3 p1 p2 p3
        rcases HK2 with rfl | rfl
        · have HS2 : Hid (CS (k + 1) = ⟨sk, sn, ss⟩) := by have := HS1.out; rw [if_neg (by decide)] at this; exact this
          go_wp2
          go_roundw
          case rel => exact ⟨k + 1, by omega, by go_num, by rw [HS2.out]; exact HBA.out, by repeat (first | exact hna | apply Below.drew | (refine Below_set3 ?_ (Nat.le_refl _) _ _ _))⟩
          case measure => simp [intOf]; omega
        · have HS2 : Hid (CS (k + 1) = ⟨2, wrap64 (sn + wrap64 (xn * m)), ⟨#[]⟩⟩) := by have := HS1.out; rw [if_pos rfl] at this; exact this
          go_wp2
          go_region
          all_goals
            go_wp2
            go_roundw
            case rel => exact ⟨k + 1, by omega, by go_num, by rw [HS2.out]; exact Box3_below (Box3_set HBA.out _ _ _) (Below.refl _ _).drew, by repeat (first | exact hna | apply Below.drew | (refine Below_set3 ?_ (Nat.le_refl _) _ _ _))⟩
            case measure => simp [intOf]; omega
    · have hkn : k = n := by omega
      subst hkn
      have HE1 : Hid (CS k = cs) := HE.out
      have z0 := HBX.out.k
      have z1 := HBX.out.n
      have z2 := HBX.out.s
      go_wp2
      exact bodyPost_ret (v := .agg #[.int .i64 (CS k).k, .int .i64 (CS k).n, .string (CS k).s]) (by simp [results, Tryz.results62, go_sem, c0, c1, c2]) rfl ⟨by rw [HE1.out], Below_set3 hbr (by omega) _ _ _⟩
set_option maxRecDepth 10000 in
set_option maxHeartbeats 4000000 in
theorem rfig3 (a : Option Addr) (cap : Nat) (v : List ch.Cnt) (col : Nat) (w : World) (hl : v.length ≤ 1000000) (ha : ch.viewAt w a v) (hc : ∀ c ∈ v, col < c.r.length) (hcl : ∀ c ∈ v, c.r.length ≤ 9223372036854775807) :
    Calls Tryz.prog 62 #[.agg #[.int .i64 3, .int .i64 (col : Int)], .slice a v.length cap] w fun e w' => e = .returned (celV (v.foldl (outStep col (-1)) noCel)) ∧ Below w.heap.size w w' := by
  have HA : Hid (ch.viewAt w a v) := ha
  have HC : Hid (∀ k, k < v.length → col < (v.getD k default).r.length ∧ (v.getD k default).r.length ≤ 9223372036854775807) := fun k h => ⟨hc _ (getD_mem h), hcl _ (getD_mem h)⟩
  have HS : Hid (∀ k, k < v.length → (v.take (k + 1)).foldl (outStep col (-1)) noCel = outStep col (-1) ((v.take k).foldl (outStep col (-1)) noCel) (v.getD k default)) := fun k h => foldl_take _ _ v k h
  have H0 : Hid ((v.take 0).foldl (outStep col (-1)) noCel = noCel) := rfl
  have HE : Hid ((v.take v.length).foldl (outStep col (-1)) noCel = v.foldl (outStep col (-1)) noCel) := by show (v.take v.length).foldl _ _ = _; rw [List.take_length]
  obtain ⟨CS, hCS⟩ : ∃ f : Nat → Cel, ∀ k, (v.take k).foldl (outStep col (-1)) noCel = f k := ⟨_, fun _ => rfl⟩
  obtain ⟨cs, hcs⟩ : ∃ z, v.foldl (outStep col (-1)) noCel = z := ⟨_, rfl⟩
  simp only [hCS, hcs] at HS H0 HE ⊢
  clear hCS hcs ha hc hcl
  obtain ⟨n, hn⟩ : ∃ n, v.length = n := ⟨_, rfl⟩
  have HN : Hid (v.length = n) := hn
  rw [hn] at HS HE hl HC ⊢
  clear hn
  unfold celV
  go_enter Tryz.func62, Tryz.ntmps62
  go_wp2
  generalize hW0 : (World.alloc (World.alloc (World.alloc w _) _) _) = W0
  have hb0 : Below w.heap.size w W0 := by rw [← hW0]; exact (((Below.refl _ _).alloc (Nat.le_refl _) _).alloc (by simp) _).alloc (by simp; omega) _
  have a0 : W0.cell? ⟨w.heap.size, 0, none⟩ = some (.int .i64 3) := by subst hW0; go_simp
  have a1 : W0.cell? ⟨w.heap.size, 1, none⟩ = some (.int .i64 (col : Int)) := by subst hW0; go_simp
  have r0 : W0.cell? ⟨w.heap.size + 1, 0, none⟩ = some (.int .i64 0) := by subst hW0; go_simp
  have r1 : W0.cell? ⟨w.heap.size + 1, 1, none⟩ = some (.int .i64 0) := by subst hW0; go_simp
  have r2 : W0.cell? ⟨w.heap.size + 1, 2, none⟩ = some (.string ⟨#[]⟩) := by subst hW0; go_simp
  have g0 : ∀ j, W0.frozen? ⟨w.heap.size + 1, j, none⟩ = false := by intro j; subst hW0; go_simp
  have y0 : W0.cell? ⟨w.heap.size + 1 + 1, 0, none⟩ = some (.int .i64 0) := by subst hW0; go_simp
  have y1 : W0.cell? ⟨w.heap.size + 1 + 1, 1, none⟩ = some (.int .i64 0) := by subst hW0; go_simp
  have y2 : W0.cell? ⟨w.heap.size + 1 + 1, 2, none⟩ = some (.string ⟨#[]⟩) := by subst hW0; go_simp
  have g1 : ∀ j, W0.frozen? ⟨w.heap.size + 1 + 1, j, none⟩ = false := by intro j; subst hW0; go_simp
  have hlt0 : w.heap.size + 1 + 1 < W0.heap.size := World.block_lt_of_cell? _ _ y0
  have HB0 : Hid (Box3 (w.heap.size + 1 + 1) W0 noCel) := ⟨y0, y1, y2, g1⟩
  clear hW0 y0 y1 y2 g1
  go_loopw [8] (fun i wr => ∃ k : Nat, k ≤ n ∧ i = .int .i64 k ∧ Box3 (w.heap.size + 1 + 1) wr (CS k) ∧ Below (w.heap.size + 1 + 1) W0 wr) (fun i _ => n - (intOf i).toNat)
  case atStart => exact ⟨0, Nat.zero_le _, rfl, by rw [H0.out]; exact HB0.out, Below.refl _ _⟩
  case round =>
    obtain ⟨k, hk, rfl, hbox, hnx⟩ := hrel
    have HBX : Hid (Box3 (w.heap.size + 1 + 1) wr (CS k)) := hbox
    have hbr : Below w.heap.size w wr := hb0.trans (hnx.mono (by omega))
    have hsz := hnx.size
    have b0 : wr.cell? ⟨w.heap.size, 0, none⟩ = _ := (hnx.cell (p := ⟨w.heap.size, 0, none⟩) (by show w.heap.size < _; omega)).trans a0
    have b1 : wr.cell? ⟨w.heap.size, 1, none⟩ = _ := (hnx.cell (p := ⟨w.heap.size, 1, none⟩) (by show w.heap.size < _; omega)).trans a1
    have c0 : wr.cell? ⟨w.heap.size + 1, 0, none⟩ = _ := (hnx.cell (p := ⟨w.heap.size + 1, 0, none⟩) (by show w.heap.size + 1 < _; omega)).trans r0
    have c1 : wr.cell? ⟨w.heap.size + 1, 1, none⟩ = _ := (hnx.cell (p := ⟨w.heap.size + 1, 1, none⟩) (by show w.heap.size + 1 < _; omega)).trans r1
    have c2 : wr.cell? ⟨w.heap.size + 1, 2, none⟩ = _ := (hnx.cell (p := ⟨w.heap.size + 1, 2, none⟩) (by show w.heap.size + 1 < _; omega)).trans r2
    have f0 : ∀ j, wr.frozen? ⟨w.heap.size + 1, j, none⟩ = false := fun j => (hnx.frozen (p := ⟨w.heap.size + 1, j, none⟩) (by show w.heap.size + 1 < _; omega)).trans (g0 j)
    clear hbox
    by_cases hlt : k < n
    · obtain ⟨b, o, ra, rc, e, x1, x2, x3⟩ := HA.out k (by rw [HN.out]; exact hlt)
      subst e
      obtain ⟨hcol, hrl⟩ := HC.out k hlt
      obtain ⟨b3, o3, e3, m1, m2, m3⟩ := x2 col hcol
      subst e3
      have q1 := cell_later hbr x1
      have q3 := cell_later hbr x3
      have p1 := cell_later hbr m1
      have p2 := cell_later hbr m2
      have p3 : wr.cell? ⟨b3, o3 + col * 3 + 2, none⟩ = _ := cell_later hbr m3
      have hbb : b < wr.heap.size := World.block_lt_of_cell? _ _ q1
      have hb3 : b3 < wr.heap.size := World.block_lt_of_cell? _ _ p1
      have hSA : w.heap.size < wr.heap.size := World.block_lt_of_cell? _ _ b0
      have i1 : (0 : Int) ≤ (k : Int) := by omega
      have i2 : (k : Int) < (n : Int) := by omega
      have j1 : (0 : Int) ≤ (col : Int) := by omega
      have j2 : (col : Int) < ((v.getD k default).r.length : Int) := by omega
      have HS1 : Hid (CS (k + 1) = outStep col (-1) (CS k) (v.getD k default)) := HS.out k hlt
      unfold outStep at HS1
      obtain ⟨m, hm⟩ : ∃ z, (v.getD k default).n = z := ⟨_, rfl⟩
      obtain ⟨⟨xk, xn, xs⟩, hx⟩ : ∃ z, (v.getD k default).r.getD col default = z := ⟨_, rfl⟩
      obtain ⟨rl, hrl'⟩ : ∃ z, (v.getD k default).r.length = z := ⟨_, rfl⟩
      rw [hx] at HS1 p1 p2 p3
      rw [hm] at q3
      rw [hrl'] at q1 j2
      obtain ⟨⟨sk, sn, ss⟩, hs⟩ : ∃ z, CS k = z := ⟨_, rfl⟩
      rw [hs] at HBX HS1
      dsimp only at p1 p2 p3 HS1
      clear hm hx hrl' hs x1 x2 x3 m1 m2 m3 hcol hrl
      go_wp2
      go_region
      all_goals
        generalize hWa : World.drew (World.alloc wr _) = Wa
        have hba : Below wr.heap.size wr Wa := by subst hWa; exact Below.drew ((Below.refl _ _).alloc (Nat.le_refl _) _)
        have d0 : Wa.cell? ⟨wr.heap.size, 0, none⟩ = some (.int .i64 xk) := by subst hWa; go_simp
        have d1 : Wa.cell? ⟨wr.heap.size, 1, none⟩ = some (.int .i64 xn) := by subst hWa; go_simp
        have d2 : Wa.cell? ⟨wr.heap.size, 2, none⟩ = some (.string xs) := by subst hWa; go_simp
        have HBA : Hid (Box3 (w.heap.size + 1 + 1) Wa ⟨sk, sn, ss⟩) := Box3_below HBX.out hba
        have z0 := HBA.out.k
        have z1 := HBA.out.n
        have z2 := HBA.out.s
        have zf := HBA.out.f
        dsimp only at z0 z1 z2
        have t0 := cell_later hba b0
        have q4 := cell_later hba q3
        have hna : Below (w.heap.size + 1 + 1) W0 Wa := hnx.trans (hba.mono (by omega))
        clear hWa b0 b1 c0 c1 c2 q1 q3 p1 p2 p3
        have KC : Hid (∀ w1, Calls Tryz.prog 95 #[.agg #[.int .i64 xk, .int .i64 xn, .string xs], .agg #[.int .i64 sk, .int .i64 sn, .string ss]] w1 fun e w' => e = .returned (.int .i64 (cmpC ⟨xk, xn, xs⟩ ⟨sk, sn, ss⟩)) ∧ Below w1.heap.size w1 w') := fun w1 => rcompare_any xk xn xs sk sn ss w1
        have hin := cmpC_in ⟨xk, xn, xs⟩ ⟨sk, sn, ss⟩
        obtain ⟨cv, hcv⟩ : ∃ z, cmpC ⟨xk, xn, xs⟩ ⟨sk, sn, ss⟩ = z := ⟨_, rfl⟩
        rw [hcv] at HS1 KC hin
        clear hcv
        by_cases h2 : xk = 0
        · subst h2
          have HS2 : Hid (CS (k + 1) = ⟨sk, sn, ss⟩) := by have := HS1.out; rw [if_pos rfl] at this; exact this
          go_wp2
          go_roundw
          case rel => exact ⟨k + 1, by omega, by go_num, by rw [HS2.out]; exact HBA.out, by repeat (first | exact hna | apply Below.drew | (refine Below_set3 ?_ (Nat.le_refl _) _ _ _))⟩
          case measure => simp [intOf]; omega
        · have h2' : (xk == 0) = false := by rw [beq_eq_false_iff_ne]; exact h2
          have HS3 : Hid (CS (k + 1) = if sk = 0 ∨ cv = -1 then ⟨xk, xn, xs⟩ else ⟨sk, sn, ss⟩) := by have := HS1.out; rw [if_neg h2] at this; exact this
          by_cases h3 : sk = 0
          · subst h3
            have HS2 : Hid (CS (k + 1) = ⟨xk, xn, xs⟩) := by have := HS3.out; rw [if_pos (.inl rfl)] at this; exact this
            go_wp2
            go_roundw
            case rel => exact ⟨k + 1, by omega, by go_num, by rw [HS2.out]; exact Box3_set HBA.out _ _ _, by repeat (first | exact hna | apply Below.drew | (refine Below_set3 ?_ (Nat.le_refl _) _ _ _))⟩
            case measure => simp [intOf]; omega
          · have h3' : (sk == 0) = false := by rw [beq_eq_false_iff_ne]; exact h3
            by_cases h4 : cv = -1
            · have HS2 : Hid (CS (k + 1) = ⟨xk, xn, xs⟩) := by have := HS3.out; rw [if_pos (.inr h4)] at this; exact this
              have h4' : decide (cv < 0) = true := decide_eq_true (by omega)
              clear HS3 h3 h4 hin
              go_wp2_with fail
              refine (KC.out _).mono ?_
              rintro e w1 ⟨rfl, hb1⟩
              have HB1 : Hid (Box3 (w.heap.size + 1 + 1) w1 ⟨sk, sn, ss⟩) := Box3_below HBA.out hb1
              have zz0 := HB1.out.k
              have zz1 := HB1.out.n
              have zz2 := HB1.out.s
              have zzf := HB1.out.f
              dsimp only at zz0 zz1 zz2
              have dd0 := cell_later hb1 d0
              have dd1 := cell_later hb1 d1
              have dd2 := cell_later hb1 d2
              have tt0 := cell_later hb1 t0
              have hn2 : Below (w.heap.size + 1 + 1) W0 w1 := hna.trans (hb1.mono (by have := hna.size; omega))
              go_wp2
              go_roundw
              case rel => exact ⟨k + 1, by omega, by go_num, by rw [HS2.out]; exact Box3_set HB1.out _ _ _, by repeat (first | exact hna | exact hn2 | apply Below.drew | (refine Below_set3 ?_ (Nat.le_refl _) _ _ _))⟩
              case measure => simp [intOf]; omega
            · have HS2 : Hid (CS (k + 1) = ⟨sk, sn, ss⟩) := by have := HS3.out; rw [if_neg (fun h => h.elim h3 h4)] at this; exact this
              have h4' : decide (cv < 0) = false := decide_eq_false (by omega)
              clear HS3 h3 h4 hin
              go_wp2_with fail
              refine (KC.out _).mono ?_
              rintro e w1 ⟨rfl, hb1⟩
              have HB1 : Hid (Box3 (w.heap.size + 1 + 1) w1 ⟨sk, sn, ss⟩) := Box3_below HBA.out hb1
              have zz0 := HB1.out.k
              have zz1 := HB1.out.n
              have zz2 := HB1.out.s
              have zzf := HB1.out.f
              dsimp only at zz0 zz1 zz2
              have dd0 := cell_later hb1 d0
              have dd1 := cell_later hb1 d1
              have dd2 := cell_later hb1 d2
              have tt0 := cell_later hb1 t0
              have hn2 : Below (w.heap.size + 1 + 1) W0 w1 := hna.trans (hb1.mono (by have := hna.size; omega))
              go_wp2
              go_roundw
              case rel => exact ⟨k + 1, by omega, by go_num, by rw [HS2.out]; exact HB1.out, by repeat (first | exact hna | exact hn2 | apply Below.drew | (refine Below_set3 ?_ (Nat.le_refl _) _ _ _))⟩
              case measure => simp [intOf]; omega
    · have hkn : k = n := by omega
      subst hkn
      have HE1 : Hid (CS k = cs) := HE.out
      have z0 := HBX.out.k
      have z1 := HBX.out.n
      have z2 := HBX.out.s
      go_wp2
      exact bodyPost_ret (v := .agg #[.int .i64 (CS k).k, .int .i64 (CS k).n, .string (CS k).s]) (by simp [results, Tryz.results62, go_sem, c0, c1, c2]) rfl ⟨by rw [HE1.out], Below_set3 hbr (by omega) _ _ _⟩
set_option maxRecDepth 10000 in
set_option maxHeartbeats 4000000 in
theorem rfig4 (a : Option Addr) (cap : Nat) (v : List ch.Cnt) (col : Nat) (w : World) (hl : v.length ≤ 1000000) (ha : ch.viewAt w a v) (hc : ∀ c ∈ v, col < c.r.length) (hcl : ∀ c ∈ v, c.r.length ≤ 9223372036854775807) :
    Calls Tryz.prog 62 #[.agg #[.int .i64 4, .int .i64 (col : Int)], .slice a v.length cap] w fun e w' => e = .returned (celV (v.foldl (outStep col 1) noCel)) ∧ Below w.heap.size w w' := by
  have HA : Hid (ch.viewAt w a v) := ha
  have HC : Hid (∀ k, k < v.length → col < (v.getD k default).r.length ∧ (v.getD k default).r.length ≤ 9223372036854775807) := fun k h => ⟨hc _ (getD_mem h), hcl _ (getD_mem h)⟩
  have HS : Hid (∀ k, k < v.length → (v.take (k + 1)).foldl (outStep col 1) noCel = outStep col 1 ((v.take k).foldl (outStep col 1) noCel) (v.getD k default)) := fun k h => foldl_take _ _ v k h
  have H0 : Hid ((v.take 0).foldl (outStep col 1) noCel = noCel) := rfl
  have HE : Hid ((v.take v.length).foldl (outStep col 1) noCel = v.foldl (outStep col 1) noCel) := by show (v.take v.length).foldl _ _ = _; rw [List.take_length]
  obtain ⟨CS, hCS⟩ : ∃ f : Nat → Cel, ∀ k, (v.take k).foldl (outStep col 1) noCel = f k := ⟨_, fun _ => rfl⟩
  obtain ⟨cs, hcs⟩ : ∃ z, v.foldl (outStep col 1) noCel = z := ⟨_, rfl⟩
  simp only [hCS, hcs] at HS H0 HE ⊢
  clear hCS hcs ha hc hcl
  obtain ⟨n, hn⟩ : ∃ n, v.length = n := ⟨_, rfl⟩
  have HN : Hid (v.length = n) := hn
  rw [hn] at HS HE hl HC ⊢
  clear hn
  unfold celV
  go_enter Tryz.func62, Tryz.ntmps62
  go_wp2
  generalize hW0 : (World.alloc (World.alloc (World.alloc w _) _) _) = W0
  have hb0 : Below w.heap.size w W0 := by rw [← hW0]; exact (((Below.refl _ _).alloc (Nat.le_refl _) _).alloc (by simp) _).alloc (by simp; omega) _
  have a0 : W0.cell? ⟨w.heap.size, 0, none⟩ = some (.int .i64 4) := by subst hW0; go_simp
  have a1 : W0.cell? ⟨w.heap.size, 1, none⟩ = some (.int .i64 (col : Int)) := by subst hW0; go_simp
  have r0 : W0.cell? ⟨w.heap.size + 1, 0, none⟩ = some (.int .i64 0) := by subst hW0; go_simp
  have r1 : W0.cell? ⟨w.heap.size + 1, 1, none⟩ = some (.int .i64 0) := by subst hW0; go_simp
  have r2 : W0.cell? ⟨w.heap.size + 1, 2, none⟩ = some (.string ⟨#[]⟩) := by subst hW0; go_simp
  have g0 : ∀ j, W0.frozen? ⟨w.heap.size + 1, j, none⟩ = false := by intro j; subst hW0; go_simp
  have y0 : W0.cell? ⟨w.heap.size + 1 + 1, 0, none⟩ = some (.int .i64 0) := by subst hW0; go_simp
  have y1 : W0.cell? ⟨w.heap.size + 1 + 1, 1, none⟩ = some (.int .i64 0) := by subst hW0; go_simp
  have y2 : W0.cell? ⟨w.heap.size + 1 + 1, 2, none⟩ = some (.string ⟨#[]⟩) := by subst hW0; go_simp
  have g1 : ∀ j, W0.frozen? ⟨w.heap.size + 1 + 1, j, none⟩ = false := by intro j; subst hW0; go_simp
  have hlt0 : w.heap.size + 1 + 1 < W0.heap.size := World.block_lt_of_cell? _ _ y0
  have HB0 : Hid (Box3 (w.heap.size + 1 + 1) W0 noCel) := ⟨y0, y1, y2, g1⟩
  clear hW0 y0 y1 y2 g1
  go_loopw [8] (fun i wr => ∃ k : Nat, k ≤ n ∧ i = .int .i64 k ∧ Box3 (w.heap.size + 1 + 1) wr (CS k) ∧ Below (w.heap.size + 1 + 1) W0 wr) (fun i _ => n - (intOf i).toNat)
  case atStart => exact ⟨0, Nat.zero_le _, rfl, by rw [H0.out]; exact HB0.out, Below.refl _ _⟩
  case round =>
    obtain ⟨k, hk, rfl, hbox, hnx⟩ := hrel
    have HBX : Hid (Box3 (w.heap.size + 1 + 1) wr (CS k)) := hbox
    have hbr : Below w.heap.size w wr := hb0.trans (hnx.mono (by omega))
    have hsz := hnx.size
    have b0 : wr.cell? ⟨w.heap.size, 0, none⟩ = _ := (hnx.cell (p := ⟨w.heap.size, 0, none⟩) (by show w.heap.size < _; omega)).trans a0
    have b1 : wr.cell? ⟨w.heap.size, 1, none⟩ = _ := (hnx.cell (p := ⟨w.heap.size, 1, none⟩) (by show w.heap.size < _; omega)).trans a1
    have c0 : wr.cell? ⟨w.heap.size + 1, 0, none⟩ = _ := (hnx.cell (p := ⟨w.heap.size + 1, 0, none⟩) (by show w.heap.size + 1 < _; omega)).trans r0
    have c1 : wr.cell? ⟨w.heap.size + 1, 1, none⟩ = _ := (hnx.cell (p := ⟨w.heap.size + 1, 1, none⟩) (by show w.heap.size + 1 < _; omega)).trans r1
    have c2 : wr.cell? ⟨w.heap.size + 1, 2, none⟩ = _ := (hnx.cell (p := ⟨w.heap.size + 1, 2, none⟩) (by show w.heap.size + 1 < _; omega)).trans r2
    have f0 : ∀ j, wr.frozen? ⟨w.heap.size + 1, j, none⟩ = false := fun j => (hnx.frozen (p := ⟨w.heap.size + 1, j, none⟩) (by show w.heap.size + 1 < _; omega)).trans (g0 j)
    clear hbox
    by_cases hlt : k < n
    · obtain ⟨b, o, ra, rc, e, x1, x2, x3⟩ := HA.out k (by rw [HN.out]; exact hlt)
      subst e
      obtain ⟨hcol, hrl⟩ := HC.out k hlt
      obtain ⟨b3, o3, e3, m1, m2, m3⟩ := x2 col hcol
      subst e3
      have q1 := cell_later hbr x1
      have q3 := cell_later hbr x3
      have p1 := cell_later hbr m1
      have p2 := cell_later hbr m2
      have p3 : wr.cell? ⟨b3, o3 + col * 3 + 2, none⟩ = _ := cell_later hbr m3
      have hbb : b < wr.heap.size := World.block_lt_of_cell? _ _ q1
      have hb3 : b3 < wr.heap.size := World.block_lt_of_cell? _ _ p1
      have hSA : w.heap.size < wr.heap.size := World.block_lt_of_cell? _ _ b0
      have i1 : (0 : Int) ≤ (k : Int) := by omega
      have i2 : (k : Int) < (n : Int) := by omega
      have j1 : (0 : Int) ≤ (col : Int) := by omega
      have j2 : (col : Int) < ((v.getD k default).r.length : Int) := by omega
      have HS1 : Hid (CS (k + 1) = outStep col 1 (CS k) (v.getD k default)) := HS.out k hlt
      unfold outStep at HS1
      obtain ⟨m, hm⟩ : ∃ z, (v.getD k default).n = z := ⟨_, rfl⟩
      obtain ⟨⟨xk, xn, xs⟩, hx⟩ : ∃ z, (v.getD k default).r.getD col default = z := ⟨_, rfl⟩
      obtain ⟨rl, hrl'⟩ : ∃ z, (v.getD k default).r.length = z := ⟨_, rfl⟩
      rw [hx] at HS1 p1 p2 p3
      rw [hm] at q3
      rw [hrl'] at q1 j2
      obtain ⟨⟨sk, sn, ss⟩, hs⟩ : ∃ z, CS k = z := ⟨_, rfl⟩
      rw [hs] at HBX HS1
      dsimp only at p1 p2 p3 HS1
      clear hm hx hrl' hs x1 x2 x3 m1 m2 m3 hcol hrl
      go_wp2
      go_region
      all_goals
        generalize hWa : World.drew (World.alloc wr _) = Wa
        have hba : Below wr.heap.size wr Wa := by subst hWa; exact Below.drew ((Below.refl _ _).alloc (Nat.le_refl _) _)
        have d0 : Wa.cell? ⟨wr.heap.size, 0, none⟩ = some (.int .i64 xk) := by subst hWa; go_simp
        have d1 : Wa.cell? ⟨wr.heap.size, 1, none⟩ = some (.int .i64 xn) := by subst hWa; go_simp
        have d2 : Wa.cell? ⟨wr.heap.size, 2, none⟩ = some (.string xs) := by subst hWa; go_simp
        have HBA : Hid (Box3 (w.heap.size + 1 + 1) Wa ⟨sk, sn, ss⟩) := Box3_below HBX.out hba
        have z0 := HBA.out.k
        have z1 := HBA.out.n
        have z2 := HBA.out.s
        have zf := HBA.out.f
        dsimp only at z0 z1 z2
        have t0 := cell_later hba b0
        have q4 := cell_later hba q3
        have hna : Below (w.heap.size + 1 + 1) W0 Wa := hnx.trans (hba.mono (by omega))
        clear hWa b0 b1 c0 c1 c2 q1 q3 p1 p2 p3
        have KC : Hid (∀ w1, Calls Tryz.prog 95 #[.agg #[.int .i64 xk, .int .i64 xn, .string xs], .agg #[.int .i64 sk, .int .i64 sn, .string ss]] w1 fun e w' => e = .returned (.int .i64 (cmpC ⟨xk, xn, xs⟩ ⟨sk, sn, ss⟩)) ∧ Below w1.heap.size w1 w') := fun w1 => rcompare_any xk xn xs sk sn ss w1
        have hin := cmpC_in ⟨xk, xn, xs⟩ ⟨sk, sn, ss⟩
        obtain ⟨cv, hcv⟩ : ∃ z, cmpC ⟨xk, xn, xs⟩ ⟨sk, sn, ss⟩ = z := ⟨_, rfl⟩
        rw [hcv] at HS1 KC hin
        clear hcv
        by_cases h2 : xk = 0
        · subst h2
          have HS2 : Hid (CS (k + 1) = ⟨sk, sn, ss⟩) := by have := HS1.out; rw [if_pos rfl] at this; exact this
          go_wp2
          go_roundw
          case rel => exact ⟨k + 1, by omega, by go_num, by rw [HS2.out]; exact HBA.out, by repeat (first | exact hna | apply Below.drew | (refine Below_set3 ?_ (Nat.le_refl _) _ _ _))⟩
          case measure => simp [intOf]; omega
        · have h2' : (xk == 0) = false := by rw [beq_eq_false_iff_ne]; exact h2
          have HS3 : Hid (CS (k + 1) = if sk = 0 ∨ cv = 1 then ⟨xk, xn, xs⟩ else ⟨sk, sn, ss⟩) := by have := HS1.out; rw [if_neg h2] at this; exact this
          by_cases h3 : sk = 0
          · subst h3
            have HS2 : Hid (CS (k + 1) = ⟨xk, xn, xs⟩) := by have := HS3.out; rw [if_pos (.inl rfl)] at this; exact this
            go_wp2
            go_roundw
            case rel => exact ⟨k + 1, by omega, by go_num, by rw [HS2.out]; exact Box3_set HBA.out _ _ _, by repeat (first | exact hna | apply Below.drew | (refine Below_set3 ?_ (Nat.le_refl _) _ _ _))⟩
            case measure => simp [intOf]; omega
          · have h3' : (sk == 0) = false := by rw [beq_eq_false_iff_ne]; exact h3
            by_cases h4 : cv = 1
            · have HS2 : Hid (CS (k + 1) = ⟨xk, xn, xs⟩) := by have := HS3.out; rw [if_pos (.inr h4)] at this; exact this
              have h4' : decide (cv > 0) = true := decide_eq_true (by omega)
              clear HS3 h3 h4 hin
              go_wp2_with fail
              refine (KC.out _).mono ?_
              rintro e w1 ⟨rfl, hb1⟩
              have HB1 : Hid (Box3 (w.heap.size + 1 + 1) w1 ⟨sk, sn, ss⟩) := Box3_below HBA.out hb1
              have zz0 := HB1.out.k
              have zz1 := HB1.out.n
              have zz2 := HB1.out.s
              have zzf := HB1.out.f
              dsimp only at zz0 zz1 zz2
              have dd0 := cell_later hb1 d0
              have dd1 := cell_later hb1 d1
              have dd2 := cell_later hb1 d2
              have tt0 := cell_later hb1 t0
              have hn2 : Below (w.heap.size + 1 + 1) W0 w1 := hna.trans (hb1.mono (by have := hna.size; omega))
              go_wp2
              go_roundw
              case rel => exact ⟨k + 1, by omega, by go_num, by rw [HS2.out]; exact Box3_set HB1.out _ _ _, by repeat (first | exact hna | exact hn2 | apply Below.drew | (refine Below_set3 ?_ (Nat.le_refl _) _ _ _))⟩
              case measure => simp [intOf]; omega
            · have HS2 : Hid (CS (k + 1) = ⟨sk, sn, ss⟩) := by have := HS3.out; rw [if_neg (fun h => h.elim h3 h4)] at this; exact this
              have h4' : decide (cv > 0) = false := decide_eq_false (by omega)
              clear HS3 h3 h4 hin
              go_wp2_with fail
              refine (KC.out _).mono ?_
              rintro e w1 ⟨rfl, hb1⟩
              have HB1 : Hid (Box3 (w.heap.size + 1 + 1) w1 ⟨sk, sn, ss⟩) := Box3_below HBA.out hb1
              have zz0 := HB1.out.k
              have zz1 := HB1.out.n
              have zz2 := HB1.out.s
              have zzf := HB1.out.f
              dsimp only at zz0 zz1 zz2
              have dd0 := cell_later hb1 d0
              have dd1 := cell_later hb1 d1
              have dd2 := cell_later hb1 d2
              have tt0 := cell_later hb1 t0
              have hn2 : Below (w.heap.size + 1 + 1) W0 w1 := hna.trans (hb1.mono (by have := hna.size; omega))
              go_wp2
              go_roundw
              case rel => exact ⟨k + 1, by omega, by go_num, by rw [HS2.out]; exact HB1.out, by repeat (first | exact hna | exact hn2 | apply Below.drew | (refine Below_set3 ?_ (Nat.le_refl _) _ _ _))⟩
              case measure => simp [intOf]; omega
    · have hkn : k = n := by omega
      subst hkn
      have HE1 : Hid (CS k = cs) := HE.out
      have z0 := HBX.out.k
      have z1 := HBX.out.n
      have z2 := HBX.out.s
      go_wp2
      exact bodyPost_ret (v := .agg #[.int .i64 (CS k).k, .int .i64 (CS k).n, .string (CS k).s]) (by simp [results, Tryz.results62, go_sem, c0, c1, c2]) rfl ⟨by rw [HE1.out], Below_set3 hbr (by omega) _ _ _⟩
theorem rfigure_any (a : Option Addr) (cap : Nat) (v : List ch.Cnt) (ag : Int × Int) (w : World) (hl : v.length ≤ 1000000) (ha : ch.viewAt w a v) (hag : 1 ≤ ag.1 ∧ ag.1 ≤ 4) (hc : ag.1 ≠ 1 → 0 ≤ ag.2 ∧ ∀ c ∈ v, ag.2.toNat < c.r.length) (hcl : ∀ c ∈ v, c.r.length ≤ 9223372036854775807) (hk : ag.1 = 2 → ∀ c ∈ v, (c.r.getD ag.2.toNat default).k = 0 ∨ (c.r.getD ag.2.toNat default).k = 2) :
    Calls Tryz.prog 62 #[.agg #[.int .i64 ag.1, .int .i64 ag.2], .slice a v.length cap] w fun e w' => e = .returned (celV (figC ag v)) ∧ Below w.heap.size w w' := by
  obtain ⟨fn, col⟩ := ag
  dsimp only at hag hc hk ⊢
  unfold figC
  dsimp only
  have h4 : fn = 1 ∨ fn = 2 ∨ fn = 3 ∨ fn = 4 := by omega
  rcases h4 with rfl | rfl | rfl | rfl
  · rw [if_pos rfl]
    exact rfig1 a cap v col w hl ha
  · rw [if_neg (by decide), if_pos rfl]
    have h2 := hc (by decide)
    have := rfig2 a cap v col.toNat w hl ha h2.2 hcl (hk rfl)
    rwa [Int.toNat_of_nonneg h2.1] at this
  · rw [if_neg (by decide), if_neg (by decide), if_pos rfl]
    have h2 := hc (by decide)
    have := rfig3 a cap v col.toNat w hl ha h2.2 hcl
    rwa [Int.toNat_of_nonneg h2.1] at this
  · rw [if_neg (by decide), if_neg (by decide), if_neg (by decide)]
    have h2 := hc (by decide)
    have := rfig4 a cap v col.toNat w hl ha h2.2 hcl
    rwa [Int.toNat_of_nonneg h2.1] at this
end Go.Proofs.YtcpanmaahhiioaaGreat.bt
