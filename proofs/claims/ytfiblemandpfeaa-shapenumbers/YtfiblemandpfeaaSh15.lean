/-
  The walk of ShapeNumbers: it answers true, of every row, index and number. No condition.
-/
import Derived.Test.YtfiblemandpfeaaSh16
import Derived.Deep.RegionWith
namespace Go.Proofs.Ytfiblemandpfeaa
set_option linter.unusedVariables false
open Go.RowKit Go.Shelf

theorem nums_many (W : World) (A : Option Addr) (C L : Nat) (h : 100 < L) (p : Nat → Int) (z : Int) : AnsB W 4 #[.slice A L C, ixV p, .int .i64 z] (.bool true) := by
  intro w hw
  have HA := alive_any W
  have h' : (100 : Int) < (L : Int) := by omega
  have hB0 := below_alloc w (.cells #[.int .i64 (p 0), .int .i64 (p 1), .int .i64 (p 2), .int .i64 (p 3)] 33)
  unfold ixV
  go_enter Try.func4, Try.ntmps4
  go_wp2_with (go_at_call 7; with_reducible refine AnsB.use HA (hw.trans (hB0.mono hw.size)) fun w2 hb2 => ?_)
  go_ret
  exact ⟨rfl, bb hB0 hb2⟩
theorem below_drewZ (w : World) : Below w.heap.size w w.drew := ⟨rfl, rfl, rfl, Nat.le_refl _, fun _ _ => rfl⟩
set_option maxHeartbeats 4000000 in
theorem nums_none (W : World) (A : Option Addr) (C L : Nat) (h' : ¬ (100 : Int) < (L : Int)) (p0 p1 p2 p3 z : Int)
    (S E : Int) (hE : E ≠ 0) (HR : AnsQ W 9 #[.slice A L C] (.tuple #[.int .i64 S, .int .i64 E]))
    (HN : AnsB W 12 #[.slice A L C, .agg #[.int .i64 p0, .int .i64 p1, .int .i64 p2, .int .i64 p3]] (.tuple #[.int .i64 0, .bool false]))
    (HT : AnsB W 13 #[.slice A L C, .int .i64 z] (.tuple #[.agg #[.int .i64 0, .int .i64 0, .int .i64 0, .int .i64 0], .bool false])) :
    AnsB W 4 #[.slice A L C, .agg #[.int .i64 p0, .int .i64 p1, .int .i64 p2, .int .i64 p3], .int .i64 z] (.bool true) := by
  intro w hw
  have HA := alive_any W
  have hq := eqIx 0 0 0 0
  have hqa := eqAr 0 0 0 0
  have hg := guardIx
  have hga := guardAr
  have hB0 := below_alloc w (.cells #[.int .i64 p0, .int .i64 p1, .int .i64 p2, .int .i64 p3] 33)
  have b0 := Blk.new w 33 #[.int .i64 p0, .int .i64 p1, .int .i64 p2, .int .i64 p3]
  have hw0 := hw.trans (hB0.mono hw.size)
  go_enter Try.func4, Try.ntmps4
  go_wp2_with (first
    | (go_at_call 7; with_reducible refine AnsB.use HA hw0 fun w2 hb2 => ?_; have hw2 := hw0.trans (hb2.mono hw0.size); obtain ⟨e0, e1, e2, e3, e4⟩ := blk_four b0 hb2)
    | (go_at_call 9; with_reducible refine AnsQ.use HR hw2 ?_)
    | (go_at_call 12; with_reducible refine AnsB.use HN hw2 fun w3 hb3 => ?_; have hbb3 := bb hb2 hb3; have hw3 := hw0.trans (hbb3.mono hw0.size))
    | (go_at_call 13; with_reducible refine AnsB.use HT hw3 fun w4 hb4 => ?_; clear e0 e1 e2 e3 e4; have hbb4 := bb hbb3 hb4; obtain ⟨e0, e1, e2, e3, e4⟩ := blk_four b0 hbb4; have hbx := bb hbb4 (below_alloc w4 (.cells #[.int .i64 0, .int .i64 0, .int .i64 0, .int .i64 0] 33)); have hw4 := hw0.trans (hbx.mono hw0.size); have bx := Blk.new w4 33 #[.int .i64 0, .int .i64 0, .int .i64 0, .int .i64 0]))
  go_ret
  exact ⟨rfl, bb hB0 hbx⟩
set_option maxHeartbeats 4000000 in
theorem nums_y_y (W : World) (A : Option Addr) (C L : Nat) (h' : ¬ (100 : Int) < (L : Int)) (p0 p1 p2 p3 z k x0 x1 x2 x3 : Int)
    (S : Int) (HR : AnsQ W 9 #[.slice A L C] (.tuple #[.int .i64 S, .int .i64 0])) (hz0 : 0 ≤ z) (hz1 : z < S)
    (HN : AnsB W 12 #[.slice A L C, .agg #[.int .i64 p0, .int .i64 p1, .int .i64 p2, .int .i64 p3]] (.tuple #[.int .i64 k, .bool true]))
    (HT : AnsB W 13 #[.slice A L C, .int .i64 z] (.tuple #[.agg #[.int .i64 x0, .int .i64 x1, .int .i64 x2, .int .i64 x3], .bool true]))
    (HI : AnsB W 14 #[.slice A L C, .agg #[.int .i64 p0, .int .i64 p1, .int .i64 p2, .int .i64 p3]] (.bool true))
    (HM : AnsB W 15 #[.slice A L C, .agg #[.int .i64 p0, .int .i64 p1, .int .i64 p2, .int .i64 p3]] (.int .i64 k))
    (HX : AnsB W 16 #[.slice A L C, .int .i64 z] (.agg #[.int .i64 x0, .int .i64 x1, .int .i64 x2, .int .i64 x3])) :
    AnsB W 4 #[.slice A L C, .agg #[.int .i64 p0, .int .i64 p1, .int .i64 p2, .int .i64 p3], .int .i64 z] (.bool true) := by
  intro w hw
  have HA := alive_any W
  have hq := eqIx x0 x1 x2 x3
  have hqa := eqAr x0 x1 x2 x3
  have hg := guardIx
  have hga := guardAr
  have hB0 := below_alloc w (.cells #[.int .i64 p0, .int .i64 p1, .int .i64 p2, .int .i64 p3] 33)
  have b0 := Blk.new w 33 #[.int .i64 p0, .int .i64 p1, .int .i64 p2, .int .i64 p3]
  have hw0 := hw.trans (hB0.mono hw.size)
  go_enter Try.func4, Try.ntmps4
  go_wp2_with (first
    | (go_at_call 7; with_reducible refine AnsB.use HA hw0 fun w2 hb2 => ?_; have hw2 := hw0.trans (hb2.mono hw0.size); obtain ⟨e0, e1, e2, e3, e4⟩ := blk_four b0 hb2)
    | (go_at_call 9; with_reducible refine AnsQ.use HR hw2 ?_)
    | (go_at_call 12; with_reducible refine AnsB.use HN hw2 fun w3 hb3 => ?_; have hbb3 := bb hb2 hb3; have hw3 := hw0.trans (hbb3.mono hw0.size))
    | (go_at_call 13; with_reducible refine AnsB.use HT hw3 fun w4 hb4 => ?_; clear e0 e1 e2 e3 e4; have hbb4 := bb hbb3 hb4; obtain ⟨e0, e1, e2, e3, e4⟩ := blk_four b0 hbb4; have hbx := bb hbb4 (below_alloc w4 (.cells #[.int .i64 x0, .int .i64 x1, .int .i64 x2, .int .i64 x3] 33)); have hw4 := hw0.trans (hbx.mono hw0.size); have bx := Blk.new w4 33 #[.int .i64 x0, .int .i64 x1, .int .i64 x2, .int .i64 x3])
    | (go_at_call 14; with_reducible refine AnsB.use HI hw4 fun w5 hb5 => ?_; clear e0 e1 e2 e3 e4; have hbb5 := bb hbx hb5; have hw5 := hw0.trans (hbb5.mono hw0.size); obtain ⟨e0, e1, e2, e3, e4⟩ := blk_four b0 hbb5; obtain ⟨g0, g1, g2, g3, g4⟩ := blk_four bx hb5)
    | (go_at_call 15; with_reducible refine AnsB.use HM hw5 fun w6 hb6 => ?_; clear e0 e1 e2 e3 e4 g0 g1 g2 g3 g4; have hbb6 := bb hbb5 hb6; have hw6 := hw0.trans (hbb6.mono hw0.size); obtain ⟨e0, e1, e2, e3, e4⟩ := blk_four b0 hbb6; obtain ⟨g0, g1, g2, g3, g4⟩ := blk_four bx (bb hb5 hb6)))
  go_region_with (go_at_call 16; with_reducible refine AnsB.use HX (hw6.trans ((below_drewZ _).mono hw6.size)) fun w7 hb7 => ?_; obtain ⟨k0, k1, k2, k3, k4⟩ := blk_four bx (bb (bb hb5 hb6) (bb (below_drewZ _) hb7)))
  all_goals
    go_wp2
    go_ret
    exact ⟨rfl, bb hB0 (bb hbb6 (bb (below_drewZ _) hb7))⟩
set_option maxHeartbeats 4000000 in
theorem nums_y_b (W : World) (A : Option Addr) (C L : Nat) (h' : ¬ (100 : Int) < (L : Int)) (p0 p1 p2 p3 z k : Int)
    (S : Int) (HR : AnsQ W 9 #[.slice A L C] (.tuple #[.int .i64 S, .int .i64 0])) (hz0 : ¬ 0 ≤ z)
    (HN : AnsB W 12 #[.slice A L C, .agg #[.int .i64 p0, .int .i64 p1, .int .i64 p2, .int .i64 p3]] (.tuple #[.int .i64 k, .bool true]))
    (HT : AnsB W 13 #[.slice A L C, .int .i64 z] (.tuple #[.agg #[.int .i64 0, .int .i64 0, .int .i64 0, .int .i64 0], .bool false]))
    (HI : AnsB W 14 #[.slice A L C, .agg #[.int .i64 p0, .int .i64 p1, .int .i64 p2, .int .i64 p3]] (.bool true))
    (HM : AnsB W 15 #[.slice A L C, .agg #[.int .i64 p0, .int .i64 p1, .int .i64 p2, .int .i64 p3]] (.int .i64 k)) :
    AnsB W 4 #[.slice A L C, .agg #[.int .i64 p0, .int .i64 p1, .int .i64 p2, .int .i64 p3], .int .i64 z] (.bool true) := by
  intro w hw
  have HA := alive_any W
  have hq := eqIx 0 0 0 0
  have hqa := eqAr 0 0 0 0
  have hg := guardIx
  have hga := guardAr
  have hB0 := below_alloc w (.cells #[.int .i64 p0, .int .i64 p1, .int .i64 p2, .int .i64 p3] 33)
  have b0 := Blk.new w 33 #[.int .i64 p0, .int .i64 p1, .int .i64 p2, .int .i64 p3]
  have hw0 := hw.trans (hB0.mono hw.size)
  go_enter Try.func4, Try.ntmps4
  go_wp2_with (first
    | (go_at_call 7; with_reducible refine AnsB.use HA hw0 fun w2 hb2 => ?_; have hw2 := hw0.trans (hb2.mono hw0.size); obtain ⟨e0, e1, e2, e3, e4⟩ := blk_four b0 hb2)
    | (go_at_call 9; with_reducible refine AnsQ.use HR hw2 ?_)
    | (go_at_call 12; with_reducible refine AnsB.use HN hw2 fun w3 hb3 => ?_; have hbb3 := bb hb2 hb3; have hw3 := hw0.trans (hbb3.mono hw0.size))
    | (go_at_call 13; with_reducible refine AnsB.use HT hw3 fun w4 hb4 => ?_; clear e0 e1 e2 e3 e4; have hbb4 := bb hbb3 hb4; obtain ⟨e0, e1, e2, e3, e4⟩ := blk_four b0 hbb4; have hbx := bb hbb4 (below_alloc w4 (.cells #[.int .i64 0, .int .i64 0, .int .i64 0, .int .i64 0] 33)); have hw4 := hw0.trans (hbx.mono hw0.size); have bx := Blk.new w4 33 #[.int .i64 0, .int .i64 0, .int .i64 0, .int .i64 0])
    | (go_at_call 14; with_reducible refine AnsB.use HI hw4 fun w5 hb5 => ?_; clear e0 e1 e2 e3 e4; have hbb5 := bb hbx hb5; have hw5 := hw0.trans (hbb5.mono hw0.size); obtain ⟨e0, e1, e2, e3, e4⟩ := blk_four b0 hbb5; obtain ⟨g0, g1, g2, g3, g4⟩ := blk_four bx hb5)
    | (go_at_call 15; with_reducible refine AnsB.use HM hw5 fun w6 hb6 => ?_; clear e0 e1 e2 e3 e4 g0 g1 g2 g3 g4; have hbb6 := bb hbb5 hb6; have hw6 := hw0.trans (hbb6.mono hw0.size); obtain ⟨e0, e1, e2, e3, e4⟩ := blk_four b0 hbb6; obtain ⟨g0, g1, g2, g3, g4⟩ := blk_four bx (bb hb5 hb6)))
  go_ret
  exact ⟨rfl, bb hB0 hbb6⟩
set_option maxHeartbeats 4000000 in
theorem nums_y_a (W : World) (A : Option Addr) (C L : Nat) (h' : ¬ (100 : Int) < (L : Int)) (p0 p1 p2 p3 z k : Int)
    (S : Int) (HR : AnsQ W 9 #[.slice A L C] (.tuple #[.int .i64 S, .int .i64 0])) (hz0 : 0 ≤ z) (hz1 : ¬ z < S)
    (HN : AnsB W 12 #[.slice A L C, .agg #[.int .i64 p0, .int .i64 p1, .int .i64 p2, .int .i64 p3]] (.tuple #[.int .i64 k, .bool true]))
    (HT : AnsB W 13 #[.slice A L C, .int .i64 z] (.tuple #[.agg #[.int .i64 0, .int .i64 0, .int .i64 0, .int .i64 0], .bool false]))
    (HI : AnsB W 14 #[.slice A L C, .agg #[.int .i64 p0, .int .i64 p1, .int .i64 p2, .int .i64 p3]] (.bool true))
    (HM : AnsB W 15 #[.slice A L C, .agg #[.int .i64 p0, .int .i64 p1, .int .i64 p2, .int .i64 p3]] (.int .i64 k)) :
    AnsB W 4 #[.slice A L C, .agg #[.int .i64 p0, .int .i64 p1, .int .i64 p2, .int .i64 p3], .int .i64 z] (.bool true) := by
  intro w hw
  have HA := alive_any W
  have hq := eqIx 0 0 0 0
  have hqa := eqAr 0 0 0 0
  have hg := guardIx
  have hga := guardAr
  have hB0 := below_alloc w (.cells #[.int .i64 p0, .int .i64 p1, .int .i64 p2, .int .i64 p3] 33)
  have b0 := Blk.new w 33 #[.int .i64 p0, .int .i64 p1, .int .i64 p2, .int .i64 p3]
  have hw0 := hw.trans (hB0.mono hw.size)
  go_enter Try.func4, Try.ntmps4
  go_wp2_with (first
    | (go_at_call 7; with_reducible refine AnsB.use HA hw0 fun w2 hb2 => ?_; have hw2 := hw0.trans (hb2.mono hw0.size); obtain ⟨e0, e1, e2, e3, e4⟩ := blk_four b0 hb2)
    | (go_at_call 9; with_reducible refine AnsQ.use HR hw2 ?_)
    | (go_at_call 12; with_reducible refine AnsB.use HN hw2 fun w3 hb3 => ?_; have hbb3 := bb hb2 hb3; have hw3 := hw0.trans (hbb3.mono hw0.size))
    | (go_at_call 13; with_reducible refine AnsB.use HT hw3 fun w4 hb4 => ?_; clear e0 e1 e2 e3 e4; have hbb4 := bb hbb3 hb4; obtain ⟨e0, e1, e2, e3, e4⟩ := blk_four b0 hbb4; have hbx := bb hbb4 (below_alloc w4 (.cells #[.int .i64 0, .int .i64 0, .int .i64 0, .int .i64 0] 33)); have hw4 := hw0.trans (hbx.mono hw0.size); have bx := Blk.new w4 33 #[.int .i64 0, .int .i64 0, .int .i64 0, .int .i64 0])
    | (go_at_call 14; with_reducible refine AnsB.use HI hw4 fun w5 hb5 => ?_; clear e0 e1 e2 e3 e4; have hbb5 := bb hbx hb5; have hw5 := hw0.trans (hbb5.mono hw0.size); obtain ⟨e0, e1, e2, e3, e4⟩ := blk_four b0 hbb5; obtain ⟨g0, g1, g2, g3, g4⟩ := blk_four bx hb5)
    | (go_at_call 15; with_reducible refine AnsB.use HM hw5 fun w6 hb6 => ?_; clear e0 e1 e2 e3 e4 g0 g1 g2 g3 g4; have hbb6 := bb hbb5 hb6; have hw6 := hw0.trans (hbb6.mono hw0.size); obtain ⟨e0, e1, e2, e3, e4⟩ := blk_four b0 hbb6; obtain ⟨g0, g1, g2, g3, g4⟩ := blk_four bx (bb hb5 hb6)))
  go_ret
  exact ⟨rfl, bb hB0 hbb6⟩
set_option maxHeartbeats 4000000 in
theorem nums_n_y (W : World) (A : Option Addr) (C L : Nat) (h' : ¬ (100 : Int) < (L : Int)) (p0 p1 p2 p3 z x0 x1 x2 x3 : Int)
    (S : Int) (HR : AnsQ W 9 #[.slice A L C] (.tuple #[.int .i64 S, .int .i64 0])) (hz0 : 0 ≤ z) (hz1 : z < S)
    (HN : AnsB W 12 #[.slice A L C, .agg #[.int .i64 p0, .int .i64 p1, .int .i64 p2, .int .i64 p3]] (.tuple #[.int .i64 0, .bool false]))
    (HT : AnsB W 13 #[.slice A L C, .int .i64 z] (.tuple #[.agg #[.int .i64 x0, .int .i64 x1, .int .i64 x2, .int .i64 x3], .bool true]))
    (HI : AnsB W 14 #[.slice A L C, .agg #[.int .i64 p0, .int .i64 p1, .int .i64 p2, .int .i64 p3]] (.bool false))
    (HX : AnsB W 16 #[.slice A L C, .int .i64 z] (.agg #[.int .i64 x0, .int .i64 x1, .int .i64 x2, .int .i64 x3])) :
    AnsB W 4 #[.slice A L C, .agg #[.int .i64 p0, .int .i64 p1, .int .i64 p2, .int .i64 p3], .int .i64 z] (.bool true) := by
  intro w hw
  have HA := alive_any W
  have hq := eqIx x0 x1 x2 x3
  have hqa := eqAr x0 x1 x2 x3
  have hg := guardIx
  have hga := guardAr
  have hB0 := below_alloc w (.cells #[.int .i64 p0, .int .i64 p1, .int .i64 p2, .int .i64 p3] 33)
  have b0 := Blk.new w 33 #[.int .i64 p0, .int .i64 p1, .int .i64 p2, .int .i64 p3]
  have hw0 := hw.trans (hB0.mono hw.size)
  go_enter Try.func4, Try.ntmps4
  go_wp2_with (first
    | (go_at_call 7; with_reducible refine AnsB.use HA hw0 fun w2 hb2 => ?_; have hw2 := hw0.trans (hb2.mono hw0.size); obtain ⟨e0, e1, e2, e3, e4⟩ := blk_four b0 hb2)
    | (go_at_call 9; with_reducible refine AnsQ.use HR hw2 ?_)
    | (go_at_call 12; with_reducible refine AnsB.use HN hw2 fun w3 hb3 => ?_; have hbb3 := bb hb2 hb3; have hw3 := hw0.trans (hbb3.mono hw0.size))
    | (go_at_call 13; with_reducible refine AnsB.use HT hw3 fun w4 hb4 => ?_; clear e0 e1 e2 e3 e4; have hbb4 := bb hbb3 hb4; obtain ⟨e0, e1, e2, e3, e4⟩ := blk_four b0 hbb4; have hbx := bb hbb4 (below_alloc w4 (.cells #[.int .i64 x0, .int .i64 x1, .int .i64 x2, .int .i64 x3] 33)); have hw4 := hw0.trans (hbx.mono hw0.size); have bx := Blk.new w4 33 #[.int .i64 x0, .int .i64 x1, .int .i64 x2, .int .i64 x3])
    | (go_at_call 14; with_reducible refine AnsB.use HI hw4 fun w5 hb5 => ?_; clear e0 e1 e2 e3 e4; have hbb5 := bb hbx hb5; have hw5 := hw0.trans (hbb5.mono hw0.size); obtain ⟨e0, e1, e2, e3, e4⟩ := blk_four b0 hbb5; obtain ⟨g0, g1, g2, g3, g4⟩ := blk_four bx hb5))
  go_region_with (go_at_call 16; with_reducible refine AnsB.use HX (hw5.trans ((below_drewZ _).mono hw5.size)) fun w7 hb7 => ?_; obtain ⟨k0, k1, k2, k3, k4⟩ := blk_four bx (bb hb5 (bb (below_drewZ _) hb7)))
  all_goals
    go_wp2
    go_ret
    exact ⟨rfl, bb hB0 (bb hbb5 (bb (below_drewZ _) hb7))⟩
set_option maxHeartbeats 4000000 in
theorem nums_n_b (W : World) (A : Option Addr) (C L : Nat) (h' : ¬ (100 : Int) < (L : Int)) (p0 p1 p2 p3 z : Int)
    (S : Int) (HR : AnsQ W 9 #[.slice A L C] (.tuple #[.int .i64 S, .int .i64 0])) (hz0 : ¬ 0 ≤ z)
    (HN : AnsB W 12 #[.slice A L C, .agg #[.int .i64 p0, .int .i64 p1, .int .i64 p2, .int .i64 p3]] (.tuple #[.int .i64 0, .bool false]))
    (HT : AnsB W 13 #[.slice A L C, .int .i64 z] (.tuple #[.agg #[.int .i64 0, .int .i64 0, .int .i64 0, .int .i64 0], .bool false]))
    (HI : AnsB W 14 #[.slice A L C, .agg #[.int .i64 p0, .int .i64 p1, .int .i64 p2, .int .i64 p3]] (.bool false)) :
    AnsB W 4 #[.slice A L C, .agg #[.int .i64 p0, .int .i64 p1, .int .i64 p2, .int .i64 p3], .int .i64 z] (.bool true) := by
  intro w hw
  have HA := alive_any W
  have hq := eqIx 0 0 0 0
  have hqa := eqAr 0 0 0 0
  have hg := guardIx
  have hga := guardAr
  have hB0 := below_alloc w (.cells #[.int .i64 p0, .int .i64 p1, .int .i64 p2, .int .i64 p3] 33)
  have b0 := Blk.new w 33 #[.int .i64 p0, .int .i64 p1, .int .i64 p2, .int .i64 p3]
  have hw0 := hw.trans (hB0.mono hw.size)
  go_enter Try.func4, Try.ntmps4
  go_wp2_with (first
    | (go_at_call 7; with_reducible refine AnsB.use HA hw0 fun w2 hb2 => ?_; have hw2 := hw0.trans (hb2.mono hw0.size); obtain ⟨e0, e1, e2, e3, e4⟩ := blk_four b0 hb2)
    | (go_at_call 9; with_reducible refine AnsQ.use HR hw2 ?_)
    | (go_at_call 12; with_reducible refine AnsB.use HN hw2 fun w3 hb3 => ?_; have hbb3 := bb hb2 hb3; have hw3 := hw0.trans (hbb3.mono hw0.size))
    | (go_at_call 13; with_reducible refine AnsB.use HT hw3 fun w4 hb4 => ?_; clear e0 e1 e2 e3 e4; have hbb4 := bb hbb3 hb4; obtain ⟨e0, e1, e2, e3, e4⟩ := blk_four b0 hbb4; have hbx := bb hbb4 (below_alloc w4 (.cells #[.int .i64 0, .int .i64 0, .int .i64 0, .int .i64 0] 33)); have hw4 := hw0.trans (hbx.mono hw0.size); have bx := Blk.new w4 33 #[.int .i64 0, .int .i64 0, .int .i64 0, .int .i64 0])
    | (go_at_call 14; with_reducible refine AnsB.use HI hw4 fun w5 hb5 => ?_; clear e0 e1 e2 e3 e4; have hbb5 := bb hbx hb5; have hw5 := hw0.trans (hbb5.mono hw0.size); obtain ⟨e0, e1, e2, e3, e4⟩ := blk_four b0 hbb5; obtain ⟨g0, g1, g2, g3, g4⟩ := blk_four bx hb5))
  go_ret
  exact ⟨rfl, bb hB0 hbb5⟩
set_option maxHeartbeats 4000000 in
theorem nums_n_a (W : World) (A : Option Addr) (C L : Nat) (h' : ¬ (100 : Int) < (L : Int)) (p0 p1 p2 p3 z : Int)
    (S : Int) (HR : AnsQ W 9 #[.slice A L C] (.tuple #[.int .i64 S, .int .i64 0])) (hz0 : 0 ≤ z) (hz1 : ¬ z < S)
    (HN : AnsB W 12 #[.slice A L C, .agg #[.int .i64 p0, .int .i64 p1, .int .i64 p2, .int .i64 p3]] (.tuple #[.int .i64 0, .bool false]))
    (HT : AnsB W 13 #[.slice A L C, .int .i64 z] (.tuple #[.agg #[.int .i64 0, .int .i64 0, .int .i64 0, .int .i64 0], .bool false]))
    (HI : AnsB W 14 #[.slice A L C, .agg #[.int .i64 p0, .int .i64 p1, .int .i64 p2, .int .i64 p3]] (.bool false)) :
    AnsB W 4 #[.slice A L C, .agg #[.int .i64 p0, .int .i64 p1, .int .i64 p2, .int .i64 p3], .int .i64 z] (.bool true) := by
  intro w hw
  have HA := alive_any W
  have hq := eqIx 0 0 0 0
  have hqa := eqAr 0 0 0 0
  have hg := guardIx
  have hga := guardAr
  have hB0 := below_alloc w (.cells #[.int .i64 p0, .int .i64 p1, .int .i64 p2, .int .i64 p3] 33)
  have b0 := Blk.new w 33 #[.int .i64 p0, .int .i64 p1, .int .i64 p2, .int .i64 p3]
  have hw0 := hw.trans (hB0.mono hw.size)
  go_enter Try.func4, Try.ntmps4
  go_wp2_with (first
    | (go_at_call 7; with_reducible refine AnsB.use HA hw0 fun w2 hb2 => ?_; have hw2 := hw0.trans (hb2.mono hw0.size); obtain ⟨e0, e1, e2, e3, e4⟩ := blk_four b0 hb2)
    | (go_at_call 9; with_reducible refine AnsQ.use HR hw2 ?_)
    | (go_at_call 12; with_reducible refine AnsB.use HN hw2 fun w3 hb3 => ?_; have hbb3 := bb hb2 hb3; have hw3 := hw0.trans (hbb3.mono hw0.size))
    | (go_at_call 13; with_reducible refine AnsB.use HT hw3 fun w4 hb4 => ?_; clear e0 e1 e2 e3 e4; have hbb4 := bb hbb3 hb4; obtain ⟨e0, e1, e2, e3, e4⟩ := blk_four b0 hbb4; have hbx := bb hbb4 (below_alloc w4 (.cells #[.int .i64 0, .int .i64 0, .int .i64 0, .int .i64 0] 33)); have hw4 := hw0.trans (hbx.mono hw0.size); have bx := Blk.new w4 33 #[.int .i64 0, .int .i64 0, .int .i64 0, .int .i64 0])
    | (go_at_call 14; with_reducible refine AnsB.use HI hw4 fun w5 hb5 => ?_; clear e0 e1 e2 e3 e4; have hbb5 := bb hbx hb5; have hw5 := hw0.trans (hbb5.mono hw0.size); obtain ⟨e0, e1, e2, e3, e4⟩ := blk_four b0 hbb5; obtain ⟨g0, g1, g2, g3, g4⟩ := blk_four bx hb5))
  go_ret
  exact ⟨rfl, bb hB0 hbb5⟩
/-- What is no shape has no cells. -/
theorem sizeV_err {zs : List Int} (he : errV zs ≠ 0) : sizeV zs = 0 := by
  unfold errV at he
  unfold sizeV
  cases hs : sz zs with
  | none => rfl
  | some s =>
    obtain ⟨ds, rfl, hS, _⟩ := sz_some hs
    exact absurd (errV_shape hS) (by unfold errV; exact he)
set_option maxHeartbeats 1000000 in
/-- ShapeNumbers. -/
theorem numbers_law (W : World) (A : Option Addr) (C : Nat) (zs : List Int) (hZ : ZAt W A C zs) (_ : zs.length * 8 ≤ 140737488355328) (p : Nat → Int) (z : Int) (hz : I64 z) : AnsB W 4 #[.slice A zs.length C, ixV p, .int .i64 z] (.bool true) := by
  by_cases hl : 100 < zs.length
  · exact nums_many W A C _ hl p z
  have h' : ¬ (100 : Int) < (zs.length : Int) := by omega
  have HR := rsize_any W A C zs hZ
  by_cases he : errV zs = 0
  · obtain ⟨ds, rfl, hS⟩ := errV_zero he
    rw [he, ints_len] at HR
    have HTn := at_no W A C (ints ds) hZ z
    have hsz := sizeV_shape hS
    rw [ints_len] at h' HTn ⊢
    have HTy : ∀ n : Nat, n < pr ds → _ := fun n hn => at_yes W A C ds hS hZ n hn
    have HXy : ∀ n : Nat, n < pr ds → _ := fun n hn => rat_any W A C ds hS hZ n hn
    by_cases hin : ∀ j, j < 4 → In ds p j
    · have HN : AnsB W 12 #[.slice A ds.length C, ixV p] (.tuple #[.int .i64 (hor ds (fun j => (p j).toNat) 4 : Int), .bool true]) := number_shape W A C ds hS hZ p _ _ (fun _ => ⟨rfl, rfl⟩) (fun j hj h => absurd (hin j hj) h)
      have hi : ∀ j, j < 4 → (p j).toNat < ln ds j := fun j hj => by have := hin j hj; unfold In at this; omega
      have HI : AnsB W 14 #[.slice A ds.length C, ixV p] (.bool true) := is_any W A C ds hZ p _ (fun _ => rfl) (fun j hj h => absurd (hin j hj) h)
      have HM := rnumber_any W A C ds hS hZ (fun j => (p j).toNat) hi
      have hv : ixV (fun j => ((p j).toNat : Int)) = ixV p := ixV_congr fun j hj => by have := hin j hj; unfold In at this; omega
      rw [hv] at HM
      by_cases hz2 : 0 ≤ z ∧ z < sizeV (ints ds)
      · obtain ⟨n, rfl⟩ := Int.eq_ofNat_of_zero_le hz2.1
        have hn : n < pr ds := by have := hz2.2; rw [hsz] at this; omega
        exact nums_y_y W A C _ h' (p 0) (p 1) (p 2) (p 3) (n : Int) _ _ _ _ _ _ HR hz2.1 hz2.2 HN (HTy n hn) HI HM (HXy n hn)
      · by_cases hz3 : 0 ≤ z
        · exact nums_y_a W A C _ h' (p 0) (p 1) (p 2) (p 3) z _ _ HR hz3 (fun h => hz2 ⟨hz3, h⟩) HN (HTn hz2) HI HM
        · exact nums_y_b W A C _ h' (p 0) (p 1) (p 2) (p 3) z _ _ HR hz3 HN (HTn hz2) HI HM
    · have HN : AnsB W 12 #[.slice A ds.length C, ixV p] (.tuple #[.int .i64 0, .bool false]) := number_shape W A C ds hS hZ p _ _ (fun h => absurd h hin) (fun j hj h => ⟨rfl, rfl⟩)
      have HI : AnsB W 14 #[.slice A ds.length C, ixV p] (.bool false) := is_any W A C ds hZ p _ (fun h => absurd h hin) (fun j hj h => rfl)
      by_cases hz2 : 0 ≤ z ∧ z < sizeV (ints ds)
      · obtain ⟨n, rfl⟩ := Int.eq_ofNat_of_zero_le hz2.1
        have hn : n < pr ds := by have := hz2.2; rw [hsz] at this; omega
        exact nums_n_y W A C _ h' (p 0) (p 1) (p 2) (p 3) (n : Int) _ _ _ _ _ HR hz2.1 hz2.2 HN (HTy n hn) HI (HXy n hn)
      · by_cases hz3 : 0 ≤ z
        · exact nums_n_a W A C _ h' (p 0) (p 1) (p 2) (p 3) z _ HR hz3 (fun h => hz2 ⟨hz3, h⟩) HN (HTn hz2) HI
        · exact nums_n_b W A C _ h' (p 0) (p 1) (p 2) (p 3) z _ HR hz3 HN (HTn hz2) HI
  · exact nums_none W A C _ h' (p 0) (p 1) (p 2) (p 3) z _ _ he HR (number_none W A C zs hZ he p) (at_no W A C zs hZ z (by rw [sizeV_err he]; omega))
end Go.Proofs.Ytfiblemandpfeaa
