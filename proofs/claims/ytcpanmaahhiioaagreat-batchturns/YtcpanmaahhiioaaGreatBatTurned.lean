/- turned: a plan whose sides are turned round (the statement's own helper). -/
import Derived.Test.YtcpanmaahhiioaaGreatBatTurn
import Derived.Test.YtcpanmaahhiioaaGreatMgBatA
import Derived.Test.YtcpanmaahhiioaaGreatMgChgB
import Derived.BigRegion
import Derived.BigQuiet
import Derived.Deep.QuietTactic
namespace Go.Proofs.YtcpanmaahhiioaaGreat.bt
open Go.ChangeShapes Go.WideShapes Go.ChangeAt Go.RowKit
open vl pl
set_option linter.unusedVariables false
set_option linter.unusedSimpArgs false
def turnA (x : PA) : PA := ⟨x.r, x.rc, x.l, x.lc, x.rk, x.rkc, x.lk, x.lkc, none, 0, none, 0⟩
theorem turn_at {w : World} {p : Pln} {x : PA} (h : planAt w p x) : planAt w (turnP p) (turnA x) :=
  ⟨h.r, h.l, h.rk, h.lk, fun i hi => absurd hi (Nat.not_lt_zero i), fun i hi => absurd hi (Nat.not_lt_zero i)⟩
theorem turn_wf {p : Pln} (h : wfPlan p) (h1 : fit p.low) (h2 : fit p.high) : wfPlan (turnP p) := by
  unfold fit at h1 h2
  refine ⟨?_, ?_, h.r, h.l, h.rk, h.lk, Nat.zero_le _, Nat.zero_le _⟩
  · show i64 (-p.high); unfold i64; omega
  · show i64 (-p.low); unfold i64; omega
set_option maxRecDepth 100000 in
set_option maxHeartbeats 4000000 in
theorem turned_any (p : Pln) (x : PA) (w : World) (hm : 1 ≤ p.mode ∧ p.mode ≤ 4) (h1 : fit p.low) (h2 : fit p.high) :
    Calls Tryz.prog 20 #[planV p x] w fun e w' => e = .returned (planV (turnP p) (turnA x)) ∧ Below w.heap.size w w' := by
  unfold fit at h1 h2
  have HT : Hid (turnM p.mode = if p.mode = 2 then 3 else if p.mode = 3 then 2 else p.mode) := rfl
  obtain ⟨kind, mode, low, high, size, limit, left, right, lkeys, rkeys, grouped, group, aggs⟩ := p
  obtain ⟨la, lc, rr, rc, lk, lkc, rk, rkc, g, gc, ag, ac⟩ := x
  unfold planV turnP turnA
  dsimp only at hm h1 h2 HT ⊢
  simp only [List.length_nil]
  obtain ⟨n6, h6⟩ : ∃ n, left.length = n := ⟨_, rfl⟩
  obtain ⟨n7, h7⟩ : ∃ n, right.length = n := ⟨_, rfl⟩
  obtain ⟨n8, h8⟩ : ∃ n, lkeys.length = n := ⟨_, rfl⟩
  obtain ⟨n9, h9⟩ : ∃ n, rkeys.length = n := ⟨_, rfl⟩
  obtain ⟨n11, h11⟩ : ∃ n, group.length = n := ⟨_, rfl⟩
  obtain ⟨n12, h12⟩ : ∃ n, aggs.length = n := ⟨_, rfl⟩
  simp only [h6, h7, h8, h9, h11, h12]
  clear h6 h7 h8 h9 h11 h12
  have e1 : wrap64 (-high) = -high := by unfold wrap64; omega
  have e2 : wrap64 (-low) = -low := by unfold wrap64; omega
  obtain ⟨nl, hnl⟩ : ∃ z, -low = z := ⟨_, rfl⟩
  obtain ⟨nh, hnh⟩ : ∃ z, -high = z := ⟨_, rfl⟩
  have hc : mode = 1 ∨ mode = 2 ∨ mode = 3 ∨ mode = 4 := by omega
  rcases hc with rfl | rfl | rfl | rfl
  · go_enter Tryz.func20, Tryz.ntmps20
    go_wp2
    go_region
    all_goals
      go_wp2
      exact bodyPost_ret (v := .agg #[.int .i64 kind, .int .i64 1, .int .i64 nh, .int .i64 nl, .int .i64 size, .int .i64 limit, .slice rr n7 rc, .slice la n6 lc, .slice rk n9 rkc, .slice lk n8 lkc, .bool false, .slice none 0 0, .slice none 0 0]) (by simp [results, Tryz.results20, go_sem]) rfl ⟨by rw [show turnM 1 = 1 from rfl, hnl, hnh], by repeat (first | exact Below.refl _ _ | (refine Below.alloc ?_ (by first | (simp; done) | (simp; omega)) _) | apply Below.drew | (refine Below.setCell ?_ (by first | (simp; done) | (simp; omega)) _))⟩
  · go_enter Tryz.func20, Tryz.ntmps20
    go_wp2
    go_region
    all_goals
      go_wp2
      exact bodyPost_ret (v := .agg #[.int .i64 kind, .int .i64 3, .int .i64 nh, .int .i64 nl, .int .i64 size, .int .i64 limit, .slice rr n7 rc, .slice la n6 lc, .slice rk n9 rkc, .slice lk n8 lkc, .bool false, .slice none 0 0, .slice none 0 0]) (by simp [results, Tryz.results20, go_sem]) rfl ⟨by rw [show turnM 2 = 3 from rfl, hnl, hnh], by repeat (first | exact Below.refl _ _ | (refine Below.alloc ?_ (by first | (simp; done) | (simp; omega)) _) | apply Below.drew | (refine Below.setCell ?_ (by first | (simp; done) | (simp; omega)) _))⟩
  · go_enter Tryz.func20, Tryz.ntmps20
    go_wp2
    go_region
    all_goals
      go_wp2
      exact bodyPost_ret (v := .agg #[.int .i64 kind, .int .i64 2, .int .i64 nh, .int .i64 nl, .int .i64 size, .int .i64 limit, .slice rr n7 rc, .slice la n6 lc, .slice rk n9 rkc, .slice lk n8 lkc, .bool false, .slice none 0 0, .slice none 0 0]) (by simp [results, Tryz.results20, go_sem]) rfl ⟨by rw [show turnM 3 = 2 from rfl, hnl, hnh], by repeat (first | exact Below.refl _ _ | (refine Below.alloc ?_ (by first | (simp; done) | (simp; omega)) _) | apply Below.drew | (refine Below.setCell ?_ (by first | (simp; done) | (simp; omega)) _))⟩
  · go_enter Tryz.func20, Tryz.ntmps20
    go_wp2
    go_region
    all_goals
      go_wp2
      exact bodyPost_ret (v := .agg #[.int .i64 kind, .int .i64 4, .int .i64 nh, .int .i64 nl, .int .i64 size, .int .i64 limit, .slice rr n7 rc, .slice la n6 lc, .slice rk n9 rkc, .slice lk n8 lkc, .bool false, .slice none 0 0, .slice none 0 0]) (by simp [results, Tryz.results20, go_sem]) rfl ⟨by rw [show turnM 4 = 4 from rfl, hnl, hnh], by repeat (first | exact Below.refl _ _ | (refine Below.alloc ?_ (by first | (simp; done) | (simp; omega)) _) | apply Below.drew | (refine Below.setCell ?_ (by first | (simp; done) | (simp; omega)) _))⟩
end Go.Proofs.YtcpanmaahhiioaaGreat.bt
