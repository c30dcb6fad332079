/-
  The walk of the statement LimbsSpreads.
-/
import Derived.Test.YtlgadaojekcjeaaDoorAlive
import Derived.Test.YtlgadaojekcjeaaDoorScale
import Derived.Test.YtlgadaojekcjeaaDoorInts
namespace Go.Proofs.YtlgadaojekcjeaaDoor
open Go.RowKit

theorem spread_eq (a0 a1 a2 b0 b1 b2 k s0 s1 s2 x0 x1 x2 p0 p1 p2 q0 q1 q2 y0 y1 y2 xt pt qt : Int) (sc yc : Bool) (hs : AddR a0 a1 a2 b0 b1 b2 s0 s1 s2 sc) (hx : ScaleR s0 s1 s2 k x0 x1 x2 xt)
    (hp : ScaleR a0 a1 a2 k p0 p1 p2 pt) (hq : ScaleR b0 b1 b2 k q0 q1 q2 qt) (hy : AddR p0 p1 p2 q0 q1 q2 y0 y1 y2 yc) : x0 = y0 ∧ x1 = y1 ∧ x2 = y2 := by
  obtain ⟨c, e1⟩ := hs.mod
  obtain ⟨d, e2⟩ := hy.mod
  have e3 := hx.2.2.2.2
  have e4 := hp.2.2.2.2
  have e5 := hq.2.2.2.2
  rw [e1, Int.sub_mul, Int.add_mul, ← e4, ← e5, Int.mul_right_comm] at e3
  exact val_inj x0 x1 x2 y0 y1 y2 (pt + qt - c * k - xt + d) hx.1 hx.2.1 hx.2.2.1 hy.1 hy.2.1 hy.2.2.1 (by omega)

attribute [local go_sem] eq24 guard24
set_option maxHeartbeats 4000000 in
set_option maxRecDepth 100000 in
theorem spreads_walk (a0 a1 a2 b0 b1 b2 k : Int) (ka0 : Wd a0) (ka1 : Wd a1) (ka2 : Wd a2) (kb0 : Wd b0) (kb1 : Wd b1) (kb2 : Wd b2) (kk : Wd k) (w : World) (htab : Tab w) :
    Calls Tryd.prog 9 #[.agg #[.int .u64 a0, .int .u64 a1, .int .u64 a2], .agg #[.int .u64 b0, .int .u64 b1, .int .u64 b2], .int .u64 k] w fun e w' => e = .returned (.bool true) ∧ Below w.heap.size w w' := by
  have HT : Hid (Tab w) := htab
  clear htab
  go_enter Tryd.func9, Tryd.ntmps9
  go_wp2_with fail
  refine (alive_any _ (by exact tab_below HT.out (by repeat' (first | with_reducible exact Below.refl _ _ | with_reducible refine Below.drew ?_ | with_reducible refine below_drewN ?_ _ | with_reducible refine Below.setCell ?_ ?_ _ | with_reducible refine Below.alloc ?_ ?_ _ | omega | (simp; done) | (simp; omega))))).mono ?_
  rintro e w1 ⟨rfl, hb1⟩
  have hA1 : Below w.heap.size w w1 := (by repeat' (first | with_reducible exact Below.refl _ _ | with_reducible refine Below.drew ?_ | with_reducible refine below_drewN ?_ _ | with_reducible refine Below.setCell ?_ ?_ _ | with_reducible refine Below.alloc ?_ ?_ _ | with_reducible refine Below.trans ?_ (hb1.mono ?_) | omega | (simp; done) | (simp; omega)))
  have hz1 : w.heap.size + 2 ≤ w1.heap.size := by simpa using hb1.size
  have s1_a : w.heap.size < w1.heap.size := by omega
  have c1_a_0 : w1.cell? ⟨w.heap.size, 0, none⟩ = some (.int .u64 a0) := (hb1.cell (p := ⟨w.heap.size, 0, none⟩) (by first | (simp; done) | (simp; omega))).trans (by simp [go_sem])
  have c1_a_1 : w1.cell? ⟨w.heap.size, 1, none⟩ = some (.int .u64 a1) := (hb1.cell (p := ⟨w.heap.size, 1, none⟩) (by first | (simp; done) | (simp; omega))).trans (by simp [go_sem])
  have c1_a_2 : w1.cell? ⟨w.heap.size, 2, none⟩ = some (.int .u64 a2) := (hb1.cell (p := ⟨w.heap.size, 2, none⟩) (by first | (simp; done) | (simp; omega))).trans (by simp [go_sem])
  have s1_b : w.heap.size + 1 < w1.heap.size := by omega
  have c1_b_0 : w1.cell? ⟨w.heap.size + 1, 0, none⟩ = some (.int .u64 b0) := (hb1.cell (p := ⟨w.heap.size + 1, 0, none⟩) (by first | (simp; done) | (simp; omega))).trans (by simp [go_sem])
  have c1_b_1 : w1.cell? ⟨w.heap.size + 1, 1, none⟩ = some (.int .u64 b1) := (hb1.cell (p := ⟨w.heap.size + 1, 1, none⟩) (by first | (simp; done) | (simp; omega))).trans (by simp [go_sem])
  have c1_b_2 : w1.cell? ⟨w.heap.size + 1, 2, none⟩ = some (.int .u64 b2) := (hb1.cell (p := ⟨w.heap.size + 1, 2, none⟩) (by first | (simp; done) | (simp; omega))).trans (by simp [go_sem])
  go_wp2_with fail
  refine (add_any a0 a1 a2 b0 b1 b2 ka0 ka1 ka2 kb0 kb1 kb2 _).mono ?_
  rintro e w2 ⟨s0, s1, s2, sc, rfl, hRs, hb2⟩
  have hA2 : Below w1.heap.size w1 w2 := (by repeat' (first | with_reducible exact Below.refl _ _ | with_reducible refine Below.drew ?_ | with_reducible refine below_drewN ?_ _ | with_reducible refine Below.setCell ?_ ?_ _ | with_reducible refine Below.alloc ?_ ?_ _ | with_reducible refine Below.trans ?_ (hb2.mono ?_) | omega | (simp; done) | (simp; omega)))
  have hz2 : w1.heap.size + 0 ≤ w2.heap.size := by simpa using hb2.size
  have s2_a : w.heap.size < w2.heap.size := by omega
  have c2_a_0 : w2.cell? ⟨w.heap.size, 0, none⟩ = some (.int .u64 a0) := (hA2.cell (p := ⟨w.heap.size, 0, none⟩) s1_a).trans c1_a_0
  have c2_a_1 : w2.cell? ⟨w.heap.size, 1, none⟩ = some (.int .u64 a1) := (hA2.cell (p := ⟨w.heap.size, 1, none⟩) s1_a).trans c1_a_1
  have c2_a_2 : w2.cell? ⟨w.heap.size, 2, none⟩ = some (.int .u64 a2) := (hA2.cell (p := ⟨w.heap.size, 2, none⟩) s1_a).trans c1_a_2
  have s2_b : w.heap.size + 1 < w2.heap.size := by omega
  have c2_b_0 : w2.cell? ⟨w.heap.size + 1, 0, none⟩ = some (.int .u64 b0) := (hA2.cell (p := ⟨w.heap.size + 1, 0, none⟩) s1_b).trans c1_b_0
  have c2_b_1 : w2.cell? ⟨w.heap.size + 1, 1, none⟩ = some (.int .u64 b1) := (hA2.cell (p := ⟨w.heap.size + 1, 1, none⟩) s1_b).trans c1_b_1
  have c2_b_2 : w2.cell? ⟨w.heap.size + 1, 2, none⟩ = some (.int .u64 b2) := (hA2.cell (p := ⟨w.heap.size + 1, 2, none⟩) s1_b).trans c1_b_2
  clear c1_a_0 c1_a_1 c1_a_2 s1_a c1_b_0 c1_b_1 c1_b_2 s1_b
  have ks0 := hRs.1
  have ks1 := hRs.2.1
  have ks2 := hRs.2.2.1
  go_wp2_with fail
  refine (scale_any s0 s1 s2 k ks0 ks1 ks2 kk _).mono ?_
  rintro e w3 ⟨x0, x1, x2, xt, rfl, hRx, hb3⟩
  have hA3 : Below w2.heap.size w2 w3 := (by repeat' (first | with_reducible exact Below.refl _ _ | with_reducible refine Below.drew ?_ | with_reducible refine below_drewN ?_ _ | with_reducible refine Below.setCell ?_ ?_ _ | with_reducible refine Below.alloc ?_ ?_ _ | with_reducible refine Below.trans ?_ (hb3.mono ?_) | omega | (simp; done) | (simp; omega)))
  have hz3 : w2.heap.size + 1 ≤ w3.heap.size := by simpa using hb3.size
  have s3_a : w.heap.size < w3.heap.size := by omega
  have c3_a_0 : w3.cell? ⟨w.heap.size, 0, none⟩ = some (.int .u64 a0) := (hA3.cell (p := ⟨w.heap.size, 0, none⟩) s2_a).trans c2_a_0
  have c3_a_1 : w3.cell? ⟨w.heap.size, 1, none⟩ = some (.int .u64 a1) := (hA3.cell (p := ⟨w.heap.size, 1, none⟩) s2_a).trans c2_a_1
  have c3_a_2 : w3.cell? ⟨w.heap.size, 2, none⟩ = some (.int .u64 a2) := (hA3.cell (p := ⟨w.heap.size, 2, none⟩) s2_a).trans c2_a_2
  have s3_b : w.heap.size + 1 < w3.heap.size := by omega
  have c3_b_0 : w3.cell? ⟨w.heap.size + 1, 0, none⟩ = some (.int .u64 b0) := (hA3.cell (p := ⟨w.heap.size + 1, 0, none⟩) s2_b).trans c2_b_0
  have c3_b_1 : w3.cell? ⟨w.heap.size + 1, 1, none⟩ = some (.int .u64 b1) := (hA3.cell (p := ⟨w.heap.size + 1, 1, none⟩) s2_b).trans c2_b_1
  have c3_b_2 : w3.cell? ⟨w.heap.size + 1, 2, none⟩ = some (.int .u64 b2) := (hA3.cell (p := ⟨w.heap.size + 1, 2, none⟩) s2_b).trans c2_b_2
  have s3_s : w2.heap.size < w3.heap.size := by omega
  have c3_s_0 : w3.cell? ⟨w2.heap.size, 0, none⟩ = some (.int .u64 s0) := (hb3.cell (p := ⟨w2.heap.size, 0, none⟩) (by first | (simp; done) | (simp; omega))).trans (by simp [go_sem])
  have c3_s_1 : w3.cell? ⟨w2.heap.size, 1, none⟩ = some (.int .u64 s1) := (hb3.cell (p := ⟨w2.heap.size, 1, none⟩) (by first | (simp; done) | (simp; omega))).trans (by simp [go_sem])
  have c3_s_2 : w3.cell? ⟨w2.heap.size, 2, none⟩ = some (.int .u64 s2) := (hb3.cell (p := ⟨w2.heap.size, 2, none⟩) (by first | (simp; done) | (simp; omega))).trans (by simp [go_sem])
  clear c2_a_0 c2_a_1 c2_a_2 s2_a c2_b_0 c2_b_1 c2_b_2 s2_b
  have kx0 := hRx.1
  have kx1 := hRx.2.1
  have kx2 := hRx.2.2.1
  go_wp2_with fail
  refine (scale_any a0 a1 a2 k ka0 ka1 ka2 kk _).mono ?_
  rintro e w4 ⟨p0, p1, p2, pt, rfl, hRp, hb4⟩
  have hA4 : Below w3.heap.size w3 w4 := (by repeat' (first | with_reducible exact Below.refl _ _ | with_reducible refine Below.drew ?_ | with_reducible refine below_drewN ?_ _ | with_reducible refine Below.setCell ?_ ?_ _ | with_reducible refine Below.alloc ?_ ?_ _ | with_reducible refine Below.trans ?_ (hb4.mono ?_) | omega | (simp; done) | (simp; omega)))
  have hz4 : w3.heap.size + 1 ≤ w4.heap.size := by simpa using hb4.size
  have s4_a : w.heap.size < w4.heap.size := by omega
  have c4_a_0 : w4.cell? ⟨w.heap.size, 0, none⟩ = some (.int .u64 a0) := (hA4.cell (p := ⟨w.heap.size, 0, none⟩) s3_a).trans c3_a_0
  have c4_a_1 : w4.cell? ⟨w.heap.size, 1, none⟩ = some (.int .u64 a1) := (hA4.cell (p := ⟨w.heap.size, 1, none⟩) s3_a).trans c3_a_1
  have c4_a_2 : w4.cell? ⟨w.heap.size, 2, none⟩ = some (.int .u64 a2) := (hA4.cell (p := ⟨w.heap.size, 2, none⟩) s3_a).trans c3_a_2
  have s4_b : w.heap.size + 1 < w4.heap.size := by omega
  have c4_b_0 : w4.cell? ⟨w.heap.size + 1, 0, none⟩ = some (.int .u64 b0) := (hA4.cell (p := ⟨w.heap.size + 1, 0, none⟩) s3_b).trans c3_b_0
  have c4_b_1 : w4.cell? ⟨w.heap.size + 1, 1, none⟩ = some (.int .u64 b1) := (hA4.cell (p := ⟨w.heap.size + 1, 1, none⟩) s3_b).trans c3_b_1
  have c4_b_2 : w4.cell? ⟨w.heap.size + 1, 2, none⟩ = some (.int .u64 b2) := (hA4.cell (p := ⟨w.heap.size + 1, 2, none⟩) s3_b).trans c3_b_2
  have s4_s : w2.heap.size < w4.heap.size := by omega
  have c4_s_0 : w4.cell? ⟨w2.heap.size, 0, none⟩ = some (.int .u64 s0) := (hA4.cell (p := ⟨w2.heap.size, 0, none⟩) s3_s).trans c3_s_0
  have c4_s_1 : w4.cell? ⟨w2.heap.size, 1, none⟩ = some (.int .u64 s1) := (hA4.cell (p := ⟨w2.heap.size, 1, none⟩) s3_s).trans c3_s_1
  have c4_s_2 : w4.cell? ⟨w2.heap.size, 2, none⟩ = some (.int .u64 s2) := (hA4.cell (p := ⟨w2.heap.size, 2, none⟩) s3_s).trans c3_s_2
  have s4_x : w3.heap.size < w4.heap.size := by omega
  have c4_x_0 : w4.cell? ⟨w3.heap.size, 0, none⟩ = some (.int .u64 x0) := (hb4.cell (p := ⟨w3.heap.size, 0, none⟩) (by first | (simp; done) | (simp; omega))).trans (by simp [go_sem])
  have c4_x_1 : w4.cell? ⟨w3.heap.size, 1, none⟩ = some (.int .u64 x1) := (hb4.cell (p := ⟨w3.heap.size, 1, none⟩) (by first | (simp; done) | (simp; omega))).trans (by simp [go_sem])
  have c4_x_2 : w4.cell? ⟨w3.heap.size, 2, none⟩ = some (.int .u64 x2) := (hb4.cell (p := ⟨w3.heap.size, 2, none⟩) (by first | (simp; done) | (simp; omega))).trans (by simp [go_sem])
  clear c3_a_0 c3_a_1 c3_a_2 s3_a c3_b_0 c3_b_1 c3_b_2 s3_b c3_s_0 c3_s_1 c3_s_2 s3_s
  have kp0 := hRp.1
  have kp1 := hRp.2.1
  have kp2 := hRp.2.2.1
  go_wp2_with fail
  refine (scale_any b0 b1 b2 k kb0 kb1 kb2 kk _).mono ?_
  rintro e w5 ⟨q0, q1, q2, qt, rfl, hRq, hb5⟩
  have hA5 : Below w4.heap.size w4 w5 := (by repeat' (first | with_reducible exact Below.refl _ _ | with_reducible refine Below.drew ?_ | with_reducible refine below_drewN ?_ _ | with_reducible refine Below.setCell ?_ ?_ _ | with_reducible refine Below.alloc ?_ ?_ _ | with_reducible refine Below.trans ?_ (hb5.mono ?_) | omega | (simp; done) | (simp; omega)))
  have hz5 : w4.heap.size + 1 ≤ w5.heap.size := by simpa using hb5.size
  have s5_a : w.heap.size < w5.heap.size := by omega
  have c5_a_0 : w5.cell? ⟨w.heap.size, 0, none⟩ = some (.int .u64 a0) := (hA5.cell (p := ⟨w.heap.size, 0, none⟩) s4_a).trans c4_a_0
  have c5_a_1 : w5.cell? ⟨w.heap.size, 1, none⟩ = some (.int .u64 a1) := (hA5.cell (p := ⟨w.heap.size, 1, none⟩) s4_a).trans c4_a_1
  have c5_a_2 : w5.cell? ⟨w.heap.size, 2, none⟩ = some (.int .u64 a2) := (hA5.cell (p := ⟨w.heap.size, 2, none⟩) s4_a).trans c4_a_2
  have s5_b : w.heap.size + 1 < w5.heap.size := by omega
  have c5_b_0 : w5.cell? ⟨w.heap.size + 1, 0, none⟩ = some (.int .u64 b0) := (hA5.cell (p := ⟨w.heap.size + 1, 0, none⟩) s4_b).trans c4_b_0
  have c5_b_1 : w5.cell? ⟨w.heap.size + 1, 1, none⟩ = some (.int .u64 b1) := (hA5.cell (p := ⟨w.heap.size + 1, 1, none⟩) s4_b).trans c4_b_1
  have c5_b_2 : w5.cell? ⟨w.heap.size + 1, 2, none⟩ = some (.int .u64 b2) := (hA5.cell (p := ⟨w.heap.size + 1, 2, none⟩) s4_b).trans c4_b_2
  have s5_s : w2.heap.size < w5.heap.size := by omega
  have c5_s_0 : w5.cell? ⟨w2.heap.size, 0, none⟩ = some (.int .u64 s0) := (hA5.cell (p := ⟨w2.heap.size, 0, none⟩) s4_s).trans c4_s_0
  have c5_s_1 : w5.cell? ⟨w2.heap.size, 1, none⟩ = some (.int .u64 s1) := (hA5.cell (p := ⟨w2.heap.size, 1, none⟩) s4_s).trans c4_s_1
  have c5_s_2 : w5.cell? ⟨w2.heap.size, 2, none⟩ = some (.int .u64 s2) := (hA5.cell (p := ⟨w2.heap.size, 2, none⟩) s4_s).trans c4_s_2
  have s5_x : w3.heap.size < w5.heap.size := by omega
  have c5_x_0 : w5.cell? ⟨w3.heap.size, 0, none⟩ = some (.int .u64 x0) := (hA5.cell (p := ⟨w3.heap.size, 0, none⟩) s4_x).trans c4_x_0
  have c5_x_1 : w5.cell? ⟨w3.heap.size, 1, none⟩ = some (.int .u64 x1) := (hA5.cell (p := ⟨w3.heap.size, 1, none⟩) s4_x).trans c4_x_1
  have c5_x_2 : w5.cell? ⟨w3.heap.size, 2, none⟩ = some (.int .u64 x2) := (hA5.cell (p := ⟨w3.heap.size, 2, none⟩) s4_x).trans c4_x_2
  have s5_p : w4.heap.size < w5.heap.size := by omega
  have c5_p_0 : w5.cell? ⟨w4.heap.size, 0, none⟩ = some (.int .u64 p0) := (hb5.cell (p := ⟨w4.heap.size, 0, none⟩) (by first | (simp; done) | (simp; omega))).trans (by simp [go_sem])
  have c5_p_1 : w5.cell? ⟨w4.heap.size, 1, none⟩ = some (.int .u64 p1) := (hb5.cell (p := ⟨w4.heap.size, 1, none⟩) (by first | (simp; done) | (simp; omega))).trans (by simp [go_sem])
  have c5_p_2 : w5.cell? ⟨w4.heap.size, 2, none⟩ = some (.int .u64 p2) := (hb5.cell (p := ⟨w4.heap.size, 2, none⟩) (by first | (simp; done) | (simp; omega))).trans (by simp [go_sem])
  clear c4_a_0 c4_a_1 c4_a_2 s4_a c4_b_0 c4_b_1 c4_b_2 s4_b c4_s_0 c4_s_1 c4_s_2 s4_s c4_x_0 c4_x_1 c4_x_2 s4_x
  have kq0 := hRq.1
  have kq1 := hRq.2.1
  have kq2 := hRq.2.2.1
  go_wp2_with fail
  refine (add_any p0 p1 p2 q0 q1 q2 kp0 kp1 kp2 kq0 kq1 kq2 _).mono ?_
  rintro e w6 ⟨y0, y1, y2, yc, rfl, hRy, hb6⟩
  have hA6 : Below w5.heap.size w5 w6 := (by repeat' (first | with_reducible exact Below.refl _ _ | with_reducible refine Below.drew ?_ | with_reducible refine below_drewN ?_ _ | with_reducible refine Below.setCell ?_ ?_ _ | with_reducible refine Below.alloc ?_ ?_ _ | with_reducible refine Below.trans ?_ (hb6.mono ?_) | omega | (simp; done) | (simp; omega)))
  have hz6 : w5.heap.size + 1 ≤ w6.heap.size := by simpa using hb6.size
  have s6_a : w.heap.size < w6.heap.size := by omega
  have c6_a_0 : w6.cell? ⟨w.heap.size, 0, none⟩ = some (.int .u64 a0) := (hA6.cell (p := ⟨w.heap.size, 0, none⟩) s5_a).trans c5_a_0
  have c6_a_1 : w6.cell? ⟨w.heap.size, 1, none⟩ = some (.int .u64 a1) := (hA6.cell (p := ⟨w.heap.size, 1, none⟩) s5_a).trans c5_a_1
  have c6_a_2 : w6.cell? ⟨w.heap.size, 2, none⟩ = some (.int .u64 a2) := (hA6.cell (p := ⟨w.heap.size, 2, none⟩) s5_a).trans c5_a_2
  have s6_b : w.heap.size + 1 < w6.heap.size := by omega
  have c6_b_0 : w6.cell? ⟨w.heap.size + 1, 0, none⟩ = some (.int .u64 b0) := (hA6.cell (p := ⟨w.heap.size + 1, 0, none⟩) s5_b).trans c5_b_0
  have c6_b_1 : w6.cell? ⟨w.heap.size + 1, 1, none⟩ = some (.int .u64 b1) := (hA6.cell (p := ⟨w.heap.size + 1, 1, none⟩) s5_b).trans c5_b_1
  have c6_b_2 : w6.cell? ⟨w.heap.size + 1, 2, none⟩ = some (.int .u64 b2) := (hA6.cell (p := ⟨w.heap.size + 1, 2, none⟩) s5_b).trans c5_b_2
  have s6_s : w2.heap.size < w6.heap.size := by omega
  have c6_s_0 : w6.cell? ⟨w2.heap.size, 0, none⟩ = some (.int .u64 s0) := (hA6.cell (p := ⟨w2.heap.size, 0, none⟩) s5_s).trans c5_s_0
  have c6_s_1 : w6.cell? ⟨w2.heap.size, 1, none⟩ = some (.int .u64 s1) := (hA6.cell (p := ⟨w2.heap.size, 1, none⟩) s5_s).trans c5_s_1
  have c6_s_2 : w6.cell? ⟨w2.heap.size, 2, none⟩ = some (.int .u64 s2) := (hA6.cell (p := ⟨w2.heap.size, 2, none⟩) s5_s).trans c5_s_2
  have s6_x : w3.heap.size < w6.heap.size := by omega
  have c6_x_0 : w6.cell? ⟨w3.heap.size, 0, none⟩ = some (.int .u64 x0) := (hA6.cell (p := ⟨w3.heap.size, 0, none⟩) s5_x).trans c5_x_0
  have c6_x_1 : w6.cell? ⟨w3.heap.size, 1, none⟩ = some (.int .u64 x1) := (hA6.cell (p := ⟨w3.heap.size, 1, none⟩) s5_x).trans c5_x_1
  have c6_x_2 : w6.cell? ⟨w3.heap.size, 2, none⟩ = some (.int .u64 x2) := (hA6.cell (p := ⟨w3.heap.size, 2, none⟩) s5_x).trans c5_x_2
  have s6_p : w4.heap.size < w6.heap.size := by omega
  have c6_p_0 : w6.cell? ⟨w4.heap.size, 0, none⟩ = some (.int .u64 p0) := (hA6.cell (p := ⟨w4.heap.size, 0, none⟩) s5_p).trans c5_p_0
  have c6_p_1 : w6.cell? ⟨w4.heap.size, 1, none⟩ = some (.int .u64 p1) := (hA6.cell (p := ⟨w4.heap.size, 1, none⟩) s5_p).trans c5_p_1
  have c6_p_2 : w6.cell? ⟨w4.heap.size, 2, none⟩ = some (.int .u64 p2) := (hA6.cell (p := ⟨w4.heap.size, 2, none⟩) s5_p).trans c5_p_2
  have s6_q : w5.heap.size < w6.heap.size := by omega
  have c6_q_0 : w6.cell? ⟨w5.heap.size, 0, none⟩ = some (.int .u64 q0) := (hb6.cell (p := ⟨w5.heap.size, 0, none⟩) (by first | (simp; done) | (simp; omega))).trans (by simp [go_sem])
  have c6_q_1 : w6.cell? ⟨w5.heap.size, 1, none⟩ = some (.int .u64 q1) := (hb6.cell (p := ⟨w5.heap.size, 1, none⟩) (by first | (simp; done) | (simp; omega))).trans (by simp [go_sem])
  have c6_q_2 : w6.cell? ⟨w5.heap.size, 2, none⟩ = some (.int .u64 q2) := (hb6.cell (p := ⟨w5.heap.size, 2, none⟩) (by first | (simp; done) | (simp; omega))).trans (by simp [go_sem])
  clear c5_a_0 c5_a_1 c5_a_2 s5_a c5_b_0 c5_b_1 c5_b_2 s5_b c5_s_0 c5_s_1 c5_s_2 s5_s c5_x_0 c5_x_1 c5_x_2 s5_x c5_p_0 c5_p_1 c5_p_2 s5_p
  have ky0 := hRy.1
  have ky1 := hRy.2.1
  have ky2 := hRy.2.2.1
  go_wp2_with fail
  obtain ⟨e0, e1, e2⟩ := spread_eq a0 a1 a2 b0 b1 b2 k s0 s1 s2 x0 x1 x2 p0 p1 p2 q0 q1 q2 y0 y1 y2 xt pt qt sc yc hRs hRx hRp hRq hRy
  clear hRs hRx hRp hRq hRy
  subst e0 e1 e2
  have hB : Below w.heap.size w w6 := (((((hA1.trans (hA2.mono (by omega))).trans (hA3.mono (by omega))).trans (hA4.mono (by omega))).trans (hA5.mono (by omega))).trans (hA6.mono (by omega)))
  go_wp2
  go_ret
  exact ⟨by simp, by repeat' (first | exact hB | with_reducible refine Below.drew ?_ | with_reducible refine Below.setCell ?_ ?_ _ | with_reducible refine Below.alloc ?_ ?_ _ | omega | (simp; done) | (simp; omega))⟩
end Go.Proofs.YtlgadaojekcjeaaDoor
