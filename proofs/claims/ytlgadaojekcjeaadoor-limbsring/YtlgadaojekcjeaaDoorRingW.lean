/-
  The walk of the statement LimbsRing.
-/
import Derived.Test.YtlgadaojekcjeaaDoorAlive
import Derived.Test.YtlgadaojekcjeaaDoorInts
namespace Go.Proofs.YtlgadaojekcjeaaDoor
open Go.RowKit

theorem ring_xy (a0 a1 a2 b0 b1 b2 c0 c1 c2 p0 p1 p2 q0 q1 q2 x0 x1 x2 y0 y1 y2 : Int) (pc qc xc yc : Bool) (hp : AddR a0 a1 a2 b0 b1 b2 p0 p1 p2 pc) (hq : AddR b0 b1 b2 c0 c1 c2 q0 q1 q2 qc)
    (hx : AddR p0 p1 p2 c0 c1 c2 x0 x1 x2 xc) (hy : AddR a0 a1 a2 q0 q1 q2 y0 y1 y2 yc) : x0 = y0 ∧ x1 = y1 ∧ x2 = y2 := by
  obtain ⟨k1, e1⟩ := hp.mod
  obtain ⟨k2, e2⟩ := hq.mod
  obtain ⟨k3, e3⟩ := hx.mod
  obtain ⟨k4, e4⟩ := hy.mod
  exact val_inj x0 x1 x2 y0 y1 y2 (k2 + k4 - k1 - k3) hx.1 hx.2.1 hx.2.2.1 hy.1 hy.2.1 hy.2.2.1 (by omega)
theorem ring_back (a0 a1 a2 b0 b1 b2 p0 p1 p2 d0 d1 d2 : Int) (pc dc : Bool) (ha0 : Wd a0) (ha1 : Wd a1) (ha2 : Wd a2) (hp : AddR a0 a1 a2 b0 b1 b2 p0 p1 p2 pc) (hd : SubR p0 p1 p2 b0 b1 b2 d0 d1 d2 dc) : d0 = a0 ∧ d1 = a1 ∧ d2 = a2 := by
  obtain ⟨k1, e1⟩ := hp.mod
  obtain ⟨k2, e2⟩ := hd.mod
  exact val_inj d0 d1 d2 a0 a1 a2 (k2 - k1) hd.1 hd.2.1 hd.2.2.1 ha0 ha1 ha2 (by omega)
theorem ring_zero (a0 a1 a2 n0 n1 n2 z0 z1 z2 : Int) (nc zc : Bool) (hn : SubR 0 0 0 a0 a1 a2 n0 n1 n2 nc) (hz : AddR a0 a1 a2 n0 n1 n2 z0 z1 z2 zc) : z0 = 0 ∧ z1 = 0 ∧ z2 = 0 := by
  obtain ⟨k1, e1⟩ := hn.mod
  obtain ⟨k2, e2⟩ := hz.mod
  exact val_inj z0 z1 z2 0 0 0 (k1 - k2) hz.1 hz.2.1 hz.2.2.1 wd0 wd0 wd0 (by omega)

attribute [local go_sem] eq24 guard24
set_option maxHeartbeats 4000000 in
set_option maxRecDepth 100000 in
theorem ring_walk (a0 a1 a2 b0 b1 b2 c0 c1 c2 : Int) (ka0 : Wd a0) (ka1 : Wd a1) (ka2 : Wd a2) (kb0 : Wd b0) (kb1 : Wd b1) (kb2 : Wd b2) (kc0 : Wd c0) (kc1 : Wd c1) (kc2 : Wd c2) (w : World) (htab : Tab w) :
    Calls Tryd.prog 6 #[.agg #[.int .u64 a0, .int .u64 a1, .int .u64 a2], .agg #[.int .u64 b0, .int .u64 b1, .int .u64 b2], .agg #[.int .u64 c0, .int .u64 c1, .int .u64 c2]] w fun e w' => e = .returned (.bool true) ∧ Below w.heap.size w w' := by
  have HT : Hid (Tab w) := htab
  clear htab
  go_enter Tryd.func6, Tryd.ntmps6
  go_wp2_with fail
  refine (alive_any _ (by exact tab_below HT.out (by repeat' (first | with_reducible exact Below.refl _ _ | with_reducible refine Below.drew ?_ | with_reducible refine below_drewN ?_ _ | with_reducible refine Below.setCell ?_ ?_ _ | with_reducible refine Below.alloc ?_ ?_ _ | omega | (simp; done) | (simp; omega))))).mono ?_
  rintro e w1 ⟨rfl, hb1⟩
  have hA1 : Below w.heap.size w w1 := (by repeat' (first | with_reducible exact Below.refl _ _ | with_reducible refine Below.drew ?_ | with_reducible refine below_drewN ?_ _ | with_reducible refine Below.setCell ?_ ?_ _ | with_reducible refine Below.alloc ?_ ?_ _ | with_reducible refine Below.trans ?_ (hb1.mono ?_) | omega | (simp; done) | (simp; omega)))
  have hz1 : w.heap.size + 3 ≤ w1.heap.size := by simpa using hb1.size
  have s1_a : w.heap.size < w1.heap.size := by omega
  have c1_a_0 : w1.cell? ⟨w.heap.size, 0, none⟩ = some (.int .u64 a0) := (hb1.cell (p := ⟨w.heap.size, 0, none⟩) (by first | (simp; done) | (simp; omega))).trans (by simp [go_sem])
  have c1_a_1 : w1.cell? ⟨w.heap.size, 1, none⟩ = some (.int .u64 a1) := (hb1.cell (p := ⟨w.heap.size, 1, none⟩) (by first | (simp; done) | (simp; omega))).trans (by simp [go_sem])
  have c1_a_2 : w1.cell? ⟨w.heap.size, 2, none⟩ = some (.int .u64 a2) := (hb1.cell (p := ⟨w.heap.size, 2, none⟩) (by first | (simp; done) | (simp; omega))).trans (by simp [go_sem])
  have s1_b : w.heap.size + 1 < w1.heap.size := by omega
  have c1_b_0 : w1.cell? ⟨w.heap.size + 1, 0, none⟩ = some (.int .u64 b0) := (hb1.cell (p := ⟨w.heap.size + 1, 0, none⟩) (by first | (simp; done) | (simp; omega))).trans (by simp [go_sem])
  have c1_b_1 : w1.cell? ⟨w.heap.size + 1, 1, none⟩ = some (.int .u64 b1) := (hb1.cell (p := ⟨w.heap.size + 1, 1, none⟩) (by first | (simp; done) | (simp; omega))).trans (by simp [go_sem])
  have c1_b_2 : w1.cell? ⟨w.heap.size + 1, 2, none⟩ = some (.int .u64 b2) := (hb1.cell (p := ⟨w.heap.size + 1, 2, none⟩) (by first | (simp; done) | (simp; omega))).trans (by simp [go_sem])
  have s1_c : w.heap.size + 1 + 1 < w1.heap.size := by omega
  have c1_c_0 : w1.cell? ⟨w.heap.size + 1 + 1, 0, none⟩ = some (.int .u64 c0) := (hb1.cell (p := ⟨w.heap.size + 1 + 1, 0, none⟩) (by first | (simp; done) | (simp; omega))).trans (by simp [go_sem])
  have c1_c_1 : w1.cell? ⟨w.heap.size + 1 + 1, 1, none⟩ = some (.int .u64 c1) := (hb1.cell (p := ⟨w.heap.size + 1 + 1, 1, none⟩) (by first | (simp; done) | (simp; omega))).trans (by simp [go_sem])
  have c1_c_2 : w1.cell? ⟨w.heap.size + 1 + 1, 2, none⟩ = some (.int .u64 c2) := (hb1.cell (p := ⟨w.heap.size + 1 + 1, 2, none⟩) (by first | (simp; done) | (simp; omega))).trans (by simp [go_sem])
  go_wp2_with fail
  refine (add_any a0 a1 a2 b0 b1 b2 ka0 ka1 ka2 kb0 kb1 kb2 _).mono ?_
  rintro e w2 ⟨p0, p1, p2, pc, rfl, hRp, hb2⟩
  have hA2 : Below w1.heap.size w1 w2 := (by repeat' (first | with_reducible exact Below.refl _ _ | with_reducible refine Below.drew ?_ | with_reducible refine below_drewN ?_ _ | with_reducible refine Below.setCell ?_ ?_ _ | with_reducible refine Below.alloc ?_ ?_ _ | with_reducible refine Below.trans ?_ (hb2.mono ?_) | omega | (simp; done) | (simp; omega)))
  have hz2 : w1.heap.size + 0 ≤ w2.heap.size := by simpa using hb2.size
  have s2_a : w.heap.size < w2.heap.size := by omega
  have c2_a_0 : w2.cell? ⟨w.heap.size, 0, none⟩ = some (.int .u64 a0) := (hA2.cell (p := ⟨w.heap.size, 0, none⟩) s1_a).trans c1_a_0
  have c2_a_1 : w2.cell? ⟨w.heap.size, 1, none⟩ = some (.int .u64 a1) := (hA2.cell (p := ⟨w.heap.size, 1, none⟩) s1_a).trans c1_a_1
  have c2_a_2 : w2.cell? ⟨w.heap.size, 2, none⟩ = some (.int .u64 a2) := (hA2.cell (p := ⟨w.heap.size, 2, none⟩) s1_a).trans c1_a_2
  have s2_b : w.heap.size + 1 < w2.heap.size := by omega
  have c2_b_0 : w2.cell? ⟨w.heap.size + 1, 0, none⟩ = some (.int .u64 b0) := (hA2.cell (p := ⟨w.heap.size + 1, 0, none⟩) s1_b).trans c1_b_0
  have c2_b_1 : w2.cell? ⟨w.heap.size + 1, 1, none⟩ = some (.int .u64 b1) := (hA2.cell (p := ⟨w.heap.size + 1, 1, none⟩) s1_b).trans c1_b_1
  have c2_b_2 : w2.cell? ⟨w.heap.size + 1, 2, none⟩ = some (.int .u64 b2) := (hA2.cell (p := ⟨w.heap.size + 1, 2, none⟩) s1_b).trans c1_b_2
  have s2_c : w.heap.size + 1 + 1 < w2.heap.size := by omega
  have c2_c_0 : w2.cell? ⟨w.heap.size + 1 + 1, 0, none⟩ = some (.int .u64 c0) := (hA2.cell (p := ⟨w.heap.size + 1 + 1, 0, none⟩) s1_c).trans c1_c_0
  have c2_c_1 : w2.cell? ⟨w.heap.size + 1 + 1, 1, none⟩ = some (.int .u64 c1) := (hA2.cell (p := ⟨w.heap.size + 1 + 1, 1, none⟩) s1_c).trans c1_c_1
  have c2_c_2 : w2.cell? ⟨w.heap.size + 1 + 1, 2, none⟩ = some (.int .u64 c2) := (hA2.cell (p := ⟨w.heap.size + 1 + 1, 2, none⟩) s1_c).trans c1_c_2
  clear c1_a_0 c1_a_1 c1_a_2 s1_a c1_b_0 c1_b_1 c1_b_2 s1_b c1_c_0 c1_c_1 c1_c_2 s1_c
  have kp0 := hRp.1
  have kp1 := hRp.2.1
  have kp2 := hRp.2.2.1
  go_wp2_with fail
  refine (add_any b0 b1 b2 c0 c1 c2 kb0 kb1 kb2 kc0 kc1 kc2 _).mono ?_
  rintro e w3 ⟨q0, q1, q2, qc, rfl, hRq, hb3⟩
  have hA3 : Below w2.heap.size w2 w3 := (by repeat' (first | with_reducible exact Below.refl _ _ | with_reducible refine Below.drew ?_ | with_reducible refine below_drewN ?_ _ | with_reducible refine Below.setCell ?_ ?_ _ | with_reducible refine Below.alloc ?_ ?_ _ | with_reducible refine Below.trans ?_ (hb3.mono ?_) | omega | (simp; done) | (simp; omega)))
  have hz3 : w2.heap.size + 1 ≤ w3.heap.size := by simpa using hb3.size
  have s3_a : w.heap.size < w3.heap.size := by omega
  have c3_a_0 : w3.cell? ⟨w.heap.size, 0, none⟩ = some (.int .u64 a0) := (hA3.cell (p := ⟨w.heap.size, 0, none⟩) s2_a).trans c2_a_0
  have c3_a_1 : w3.cell? ⟨w.heap.size, 1, none⟩ = some (.int .u64 a1) := (hA3.cell (p := ⟨w.heap.size, 1, none⟩) s2_a).trans c2_a_1
  have c3_a_2 : w3.cell? ⟨w.heap.size, 2, none⟩ = some (.int .u64 a2) := (hA3.cell (p := ⟨w.heap.size, 2, none⟩) s2_a).trans c2_a_2
  have s3_b : w.heap.size + 1 < w3.heap.size := by omega
  have c3_b_0 : w3.cell? ⟨w.heap.size + 1, 0, none⟩ = some (.int .u64 b0) := (hA3.cell (p := ⟨w.heap.size + 1, 0, none⟩) s2_b).trans c2_b_0
  have c3_b_1 : w3.cell? ⟨w.heap.size + 1, 1, none⟩ = some (.int .u64 b1) := (hA3.cell (p := ⟨w.heap.size + 1, 1, none⟩) s2_b).trans c2_b_1
  have c3_b_2 : w3.cell? ⟨w.heap.size + 1, 2, none⟩ = some (.int .u64 b2) := (hA3.cell (p := ⟨w.heap.size + 1, 2, none⟩) s2_b).trans c2_b_2
  have s3_c : w.heap.size + 1 + 1 < w3.heap.size := by omega
  have c3_c_0 : w3.cell? ⟨w.heap.size + 1 + 1, 0, none⟩ = some (.int .u64 c0) := (hA3.cell (p := ⟨w.heap.size + 1 + 1, 0, none⟩) s2_c).trans c2_c_0
  have c3_c_1 : w3.cell? ⟨w.heap.size + 1 + 1, 1, none⟩ = some (.int .u64 c1) := (hA3.cell (p := ⟨w.heap.size + 1 + 1, 1, none⟩) s2_c).trans c2_c_1
  have c3_c_2 : w3.cell? ⟨w.heap.size + 1 + 1, 2, none⟩ = some (.int .u64 c2) := (hA3.cell (p := ⟨w.heap.size + 1 + 1, 2, none⟩) s2_c).trans c2_c_2
  have s3_p : w2.heap.size < w3.heap.size := by omega
  have c3_p_0 : w3.cell? ⟨w2.heap.size, 0, none⟩ = some (.int .u64 p0) := (hb3.cell (p := ⟨w2.heap.size, 0, none⟩) (by first | (simp; done) | (simp; omega))).trans (by simp [go_sem])
  have c3_p_1 : w3.cell? ⟨w2.heap.size, 1, none⟩ = some (.int .u64 p1) := (hb3.cell (p := ⟨w2.heap.size, 1, none⟩) (by first | (simp; done) | (simp; omega))).trans (by simp [go_sem])
  have c3_p_2 : w3.cell? ⟨w2.heap.size, 2, none⟩ = some (.int .u64 p2) := (hb3.cell (p := ⟨w2.heap.size, 2, none⟩) (by first | (simp; done) | (simp; omega))).trans (by simp [go_sem])
  clear c2_a_0 c2_a_1 c2_a_2 s2_a c2_b_0 c2_b_1 c2_b_2 s2_b c2_c_0 c2_c_1 c2_c_2 s2_c
  have kq0 := hRq.1
  have kq1 := hRq.2.1
  have kq2 := hRq.2.2.1
  go_wp2_with fail
  refine (add_any p0 p1 p2 c0 c1 c2 kp0 kp1 kp2 kc0 kc1 kc2 _).mono ?_
  rintro e w4 ⟨x0, x1, x2, xc, rfl, hRx, hb4⟩
  have hA4 : Below w3.heap.size w3 w4 := (by repeat' (first | with_reducible exact Below.refl _ _ | with_reducible refine Below.drew ?_ | with_reducible refine below_drewN ?_ _ | with_reducible refine Below.setCell ?_ ?_ _ | with_reducible refine Below.alloc ?_ ?_ _ | with_reducible refine Below.trans ?_ (hb4.mono ?_) | omega | (simp; done) | (simp; omega)))
  have hz4 : w3.heap.size + 1 ≤ w4.heap.size := by simpa using hb4.size
  have s4_a : w.heap.size < w4.heap.size := by omega
  have c4_a_0 : w4.cell? ⟨w.heap.size, 0, none⟩ = some (.int .u64 a0) := (hA4.cell (p := ⟨w.heap.size, 0, none⟩) s3_a).trans c3_a_0
  have c4_a_1 : w4.cell? ⟨w.heap.size, 1, none⟩ = some (.int .u64 a1) := (hA4.cell (p := ⟨w.heap.size, 1, none⟩) s3_a).trans c3_a_1
  have c4_a_2 : w4.cell? ⟨w.heap.size, 2, none⟩ = some (.int .u64 a2) := (hA4.cell (p := ⟨w.heap.size, 2, none⟩) s3_a).trans c3_a_2
  have s4_b : w.heap.size + 1 < w4.heap.size := by omega
  have c4_b_0 : w4.cell? ⟨w.heap.size + 1, 0, none⟩ = some (.int .u64 b0) := (hA4.cell (p := ⟨w.heap.size + 1, 0, none⟩) s3_b).trans c3_b_0
  have c4_b_1 : w4.cell? ⟨w.heap.size + 1, 1, none⟩ = some (.int .u64 b1) := (hA4.cell (p := ⟨w.heap.size + 1, 1, none⟩) s3_b).trans c3_b_1
  have c4_b_2 : w4.cell? ⟨w.heap.size + 1, 2, none⟩ = some (.int .u64 b2) := (hA4.cell (p := ⟨w.heap.size + 1, 2, none⟩) s3_b).trans c3_b_2
  have s4_c : w.heap.size + 1 + 1 < w4.heap.size := by omega
  have c4_c_0 : w4.cell? ⟨w.heap.size + 1 + 1, 0, none⟩ = some (.int .u64 c0) := (hA4.cell (p := ⟨w.heap.size + 1 + 1, 0, none⟩) s3_c).trans c3_c_0
  have c4_c_1 : w4.cell? ⟨w.heap.size + 1 + 1, 1, none⟩ = some (.int .u64 c1) := (hA4.cell (p := ⟨w.heap.size + 1 + 1, 1, none⟩) s3_c).trans c3_c_1
  have c4_c_2 : w4.cell? ⟨w.heap.size + 1 + 1, 2, none⟩ = some (.int .u64 c2) := (hA4.cell (p := ⟨w.heap.size + 1 + 1, 2, none⟩) s3_c).trans c3_c_2
  have s4_p : w2.heap.size < w4.heap.size := by omega
  have c4_p_0 : w4.cell? ⟨w2.heap.size, 0, none⟩ = some (.int .u64 p0) := (hA4.cell (p := ⟨w2.heap.size, 0, none⟩) s3_p).trans c3_p_0
  have c4_p_1 : w4.cell? ⟨w2.heap.size, 1, none⟩ = some (.int .u64 p1) := (hA4.cell (p := ⟨w2.heap.size, 1, none⟩) s3_p).trans c3_p_1
  have c4_p_2 : w4.cell? ⟨w2.heap.size, 2, none⟩ = some (.int .u64 p2) := (hA4.cell (p := ⟨w2.heap.size, 2, none⟩) s3_p).trans c3_p_2
  have s4_q : w3.heap.size < w4.heap.size := by omega
  have c4_q_0 : w4.cell? ⟨w3.heap.size, 0, none⟩ = some (.int .u64 q0) := (hb4.cell (p := ⟨w3.heap.size, 0, none⟩) (by first | (simp; done) | (simp; omega))).trans (by simp [go_sem])
  have c4_q_1 : w4.cell? ⟨w3.heap.size, 1, none⟩ = some (.int .u64 q1) := (hb4.cell (p := ⟨w3.heap.size, 1, none⟩) (by first | (simp; done) | (simp; omega))).trans (by simp [go_sem])
  have c4_q_2 : w4.cell? ⟨w3.heap.size, 2, none⟩ = some (.int .u64 q2) := (hb4.cell (p := ⟨w3.heap.size, 2, none⟩) (by first | (simp; done) | (simp; omega))).trans (by simp [go_sem])
  clear c3_a_0 c3_a_1 c3_a_2 s3_a c3_b_0 c3_b_1 c3_b_2 s3_b c3_c_0 c3_c_1 c3_c_2 s3_c c3_p_0 c3_p_1 c3_p_2 s3_p
  have kx0 := hRx.1
  have kx1 := hRx.2.1
  have kx2 := hRx.2.2.1
  go_wp2_with fail
  refine (add_any a0 a1 a2 q0 q1 q2 ka0 ka1 ka2 kq0 kq1 kq2 _).mono ?_
  rintro e w5 ⟨y0, y1, y2, yc, rfl, hRy, hb5⟩
  have hA5 : Below w4.heap.size w4 w5 := (by repeat' (first | with_reducible exact Below.refl _ _ | with_reducible refine Below.drew ?_ | with_reducible refine below_drewN ?_ _ | with_reducible refine Below.setCell ?_ ?_ _ | with_reducible refine Below.alloc ?_ ?_ _ | with_reducible refine Below.trans ?_ (hb5.mono ?_) | omega | (simp; done) | (simp; omega)))
  have hz5 : w4.heap.size + 1 ≤ w5.heap.size := by simpa using hb5.size
  have s5_a : w.heap.size < w5.heap.size := by omega
  have c5_a_0 : w5.cell? ⟨w.heap.size, 0, none⟩ = some (.int .u64 a0) := (hA5.cell (p := ⟨w.heap.size, 0, none⟩) s4_a).trans c4_a_0
  have c5_a_1 : w5.cell? ⟨w.heap.size, 1, none⟩ = some (.int .u64 a1) := (hA5.cell (p := ⟨w.heap.size, 1, none⟩) s4_a).trans c4_a_1
  have c5_a_2 : w5.cell? ⟨w.heap.size, 2, none⟩ = some (.int .u64 a2) := (hA5.cell (p := ⟨w.heap.size, 2, none⟩) s4_a).trans c4_a_2
  have s5_b : w.heap.size + 1 < w5.heap.size := by omega
  have c5_b_0 : w5.cell? ⟨w.heap.size + 1, 0, none⟩ = some (.int .u64 b0) := (hA5.cell (p := ⟨w.heap.size + 1, 0, none⟩) s4_b).trans c4_b_0
  have c5_b_1 : w5.cell? ⟨w.heap.size + 1, 1, none⟩ = some (.int .u64 b1) := (hA5.cell (p := ⟨w.heap.size + 1, 1, none⟩) s4_b).trans c4_b_1
  have c5_b_2 : w5.cell? ⟨w.heap.size + 1, 2, none⟩ = some (.int .u64 b2) := (hA5.cell (p := ⟨w.heap.size + 1, 2, none⟩) s4_b).trans c4_b_2
  have s5_c : w.heap.size + 1 + 1 < w5.heap.size := by omega
  have c5_c_0 : w5.cell? ⟨w.heap.size + 1 + 1, 0, none⟩ = some (.int .u64 c0) := (hA5.cell (p := ⟨w.heap.size + 1 + 1, 0, none⟩) s4_c).trans c4_c_0
  have c5_c_1 : w5.cell? ⟨w.heap.size + 1 + 1, 1, none⟩ = some (.int .u64 c1) := (hA5.cell (p := ⟨w.heap.size + 1 + 1, 1, none⟩) s4_c).trans c4_c_1
  have c5_c_2 : w5.cell? ⟨w.heap.size + 1 + 1, 2, none⟩ = some (.int .u64 c2) := (hA5.cell (p := ⟨w.heap.size + 1 + 1, 2, none⟩) s4_c).trans c4_c_2
  have s5_p : w2.heap.size < w5.heap.size := by omega
  have c5_p_0 : w5.cell? ⟨w2.heap.size, 0, none⟩ = some (.int .u64 p0) := (hA5.cell (p := ⟨w2.heap.size, 0, none⟩) s4_p).trans c4_p_0
  have c5_p_1 : w5.cell? ⟨w2.heap.size, 1, none⟩ = some (.int .u64 p1) := (hA5.cell (p := ⟨w2.heap.size, 1, none⟩) s4_p).trans c4_p_1
  have c5_p_2 : w5.cell? ⟨w2.heap.size, 2, none⟩ = some (.int .u64 p2) := (hA5.cell (p := ⟨w2.heap.size, 2, none⟩) s4_p).trans c4_p_2
  have s5_q : w3.heap.size < w5.heap.size := by omega
  have c5_q_0 : w5.cell? ⟨w3.heap.size, 0, none⟩ = some (.int .u64 q0) := (hA5.cell (p := ⟨w3.heap.size, 0, none⟩) s4_q).trans c4_q_0
  have c5_q_1 : w5.cell? ⟨w3.heap.size, 1, none⟩ = some (.int .u64 q1) := (hA5.cell (p := ⟨w3.heap.size, 1, none⟩) s4_q).trans c4_q_1
  have c5_q_2 : w5.cell? ⟨w3.heap.size, 2, none⟩ = some (.int .u64 q2) := (hA5.cell (p := ⟨w3.heap.size, 2, none⟩) s4_q).trans c4_q_2
  have s5_x : w4.heap.size < w5.heap.size := by omega
  have c5_x_0 : w5.cell? ⟨w4.heap.size, 0, none⟩ = some (.int .u64 x0) := (hb5.cell (p := ⟨w4.heap.size, 0, none⟩) (by first | (simp; done) | (simp; omega))).trans (by simp [go_sem])
  have c5_x_1 : w5.cell? ⟨w4.heap.size, 1, none⟩ = some (.int .u64 x1) := (hb5.cell (p := ⟨w4.heap.size, 1, none⟩) (by first | (simp; done) | (simp; omega))).trans (by simp [go_sem])
  have c5_x_2 : w5.cell? ⟨w4.heap.size, 2, none⟩ = some (.int .u64 x2) := (hb5.cell (p := ⟨w4.heap.size, 2, none⟩) (by first | (simp; done) | (simp; omega))).trans (by simp [go_sem])
  clear c4_a_0 c4_a_1 c4_a_2 s4_a c4_b_0 c4_b_1 c4_b_2 s4_b c4_c_0 c4_c_1 c4_c_2 s4_c c4_p_0 c4_p_1 c4_p_2 s4_p c4_q_0 c4_q_1 c4_q_2 s4_q
  have ky0 := hRy.1
  have ky1 := hRy.2.1
  have ky2 := hRy.2.2.1
  go_wp2_with fail
  refine (sub_any p0 p1 p2 b0 b1 b2 kp0 kp1 kp2 kb0 kb1 kb2 _).mono ?_
  rintro e w6 ⟨d0, d1, d2, dc, rfl, hRd, hb6⟩
  have hA6 : Below w5.heap.size w5 w6 := (by repeat' (first | with_reducible exact Below.refl _ _ | with_reducible refine Below.drew ?_ | with_reducible refine below_drewN ?_ _ | with_reducible refine Below.setCell ?_ ?_ _ | with_reducible refine Below.alloc ?_ ?_ _ | with_reducible refine Below.trans ?_ (hb6.mono ?_) | omega | (simp; done) | (simp; omega)))
  have hz6 : w5.heap.size + 1 ≤ w6.heap.size := by simpa using hb6.size
  have s6_a : w.heap.size < w6.heap.size := by omega
  have c6_a_0 : w6.cell? ⟨w.heap.size, 0, none⟩ = some (.int .u64 a0) := (hA6.cell (p := ⟨w.heap.size, 0, none⟩) s5_a).trans c5_a_0
  have c6_a_1 : w6.cell? ⟨w.heap.size, 1, none⟩ = some (.int .u64 a1) := (hA6.cell (p := ⟨w.heap.size, 1, none⟩) s5_a).trans c5_a_1
  have c6_a_2 : w6.cell? ⟨w.heap.size, 2, none⟩ = some (.int .u64 a2) := (hA6.cell (p := ⟨w.heap.size, 2, none⟩) s5_a).trans c5_a_2
  have s6_b : w.heap.size + 1 < w6.heap.size := by omega
  have c6_b_0 : w6.cell? ⟨w.heap.size + 1, 0, none⟩ = some (.int .u64 b0) := (hA6.cell (p := ⟨w.heap.size + 1, 0, none⟩) s5_b).trans c5_b_0
  have c6_b_1 : w6.cell? ⟨w.heap.size + 1, 1, none⟩ = some (.int .u64 b1) := (hA6.cell (p := ⟨w.heap.size + 1, 1, none⟩) s5_b).trans c5_b_1
  have c6_b_2 : w6.cell? ⟨w.heap.size + 1, 2, none⟩ = some (.int .u64 b2) := (hA6.cell (p := ⟨w.heap.size + 1, 2, none⟩) s5_b).trans c5_b_2
  have s6_c : w.heap.size + 1 + 1 < w6.heap.size := by omega
  have c6_c_0 : w6.cell? ⟨w.heap.size + 1 + 1, 0, none⟩ = some (.int .u64 c0) := (hA6.cell (p := ⟨w.heap.size + 1 + 1, 0, none⟩) s5_c).trans c5_c_0
  have c6_c_1 : w6.cell? ⟨w.heap.size + 1 + 1, 1, none⟩ = some (.int .u64 c1) := (hA6.cell (p := ⟨w.heap.size + 1 + 1, 1, none⟩) s5_c).trans c5_c_1
  have c6_c_2 : w6.cell? ⟨w.heap.size + 1 + 1, 2, none⟩ = some (.int .u64 c2) := (hA6.cell (p := ⟨w.heap.size + 1 + 1, 2, none⟩) s5_c).trans c5_c_2
  have s6_p : w2.heap.size < w6.heap.size := by omega
  have c6_p_0 : w6.cell? ⟨w2.heap.size, 0, none⟩ = some (.int .u64 p0) := (hA6.cell (p := ⟨w2.heap.size, 0, none⟩) s5_p).trans c5_p_0
  have c6_p_1 : w6.cell? ⟨w2.heap.size, 1, none⟩ = some (.int .u64 p1) := (hA6.cell (p := ⟨w2.heap.size, 1, none⟩) s5_p).trans c5_p_1
  have c6_p_2 : w6.cell? ⟨w2.heap.size, 2, none⟩ = some (.int .u64 p2) := (hA6.cell (p := ⟨w2.heap.size, 2, none⟩) s5_p).trans c5_p_2
  have s6_q : w3.heap.size < w6.heap.size := by omega
  have c6_q_0 : w6.cell? ⟨w3.heap.size, 0, none⟩ = some (.int .u64 q0) := (hA6.cell (p := ⟨w3.heap.size, 0, none⟩) s5_q).trans c5_q_0
  have c6_q_1 : w6.cell? ⟨w3.heap.size, 1, none⟩ = some (.int .u64 q1) := (hA6.cell (p := ⟨w3.heap.size, 1, none⟩) s5_q).trans c5_q_1
  have c6_q_2 : w6.cell? ⟨w3.heap.size, 2, none⟩ = some (.int .u64 q2) := (hA6.cell (p := ⟨w3.heap.size, 2, none⟩) s5_q).trans c5_q_2
  have s6_x : w4.heap.size < w6.heap.size := by omega
  have c6_x_0 : w6.cell? ⟨w4.heap.size, 0, none⟩ = some (.int .u64 x0) := (hA6.cell (p := ⟨w4.heap.size, 0, none⟩) s5_x).trans c5_x_0
  have c6_x_1 : w6.cell? ⟨w4.heap.size, 1, none⟩ = some (.int .u64 x1) := (hA6.cell (p := ⟨w4.heap.size, 1, none⟩) s5_x).trans c5_x_1
  have c6_x_2 : w6.cell? ⟨w4.heap.size, 2, none⟩ = some (.int .u64 x2) := (hA6.cell (p := ⟨w4.heap.size, 2, none⟩) s5_x).trans c5_x_2
  have s6_y : w5.heap.size < w6.heap.size := by omega
  have c6_y_0 : w6.cell? ⟨w5.heap.size, 0, none⟩ = some (.int .u64 y0) := (hb6.cell (p := ⟨w5.heap.size, 0, none⟩) (by first | (simp; done) | (simp; omega))).trans (by simp [go_sem])
  have c6_y_1 : w6.cell? ⟨w5.heap.size, 1, none⟩ = some (.int .u64 y1) := (hb6.cell (p := ⟨w5.heap.size, 1, none⟩) (by first | (simp; done) | (simp; omega))).trans (by simp [go_sem])
  have c6_y_2 : w6.cell? ⟨w5.heap.size, 2, none⟩ = some (.int .u64 y2) := (hb6.cell (p := ⟨w5.heap.size, 2, none⟩) (by first | (simp; done) | (simp; omega))).trans (by simp [go_sem])
  clear c5_a_0 c5_a_1 c5_a_2 s5_a c5_b_0 c5_b_1 c5_b_2 s5_b c5_c_0 c5_c_1 c5_c_2 s5_c c5_p_0 c5_p_1 c5_p_2 s5_p c5_q_0 c5_q_1 c5_q_2 s5_q c5_x_0 c5_x_1 c5_x_2 s5_x
  have kd0 := hRd.1
  have kd1 := hRd.2.1
  have kd2 := hRd.2.2.1
  go_wp2_with fail
  have hB6 : Below w.heap.size w w6 := ((((hA1.trans (hA2.mono (by omega))).trans (hA3.mono (by omega))).trans (hA4.mono (by omega))).trans (hA5.mono (by omega))).trans (hA6.mono (by omega))
  have m60a : w.heap.size < w6.heap.size := by omega
  have m61a : w.heap.size < w6.heap.size + 1 := by omega
  have m62a : w.heap.size < w6.heap.size + 1 + 1 := by omega
  have m60b : w4.heap.size < w6.heap.size := by omega
  have m61b : w4.heap.size < w6.heap.size + 1 := by omega
  have m62b : w4.heap.size < w6.heap.size + 1 + 1 := by omega
  have m60c : w5.heap.size < w6.heap.size := by omega
  have m61c : w5.heap.size < w6.heap.size + 1 := by omega
  have m62c : w5.heap.size < w6.heap.size + 1 + 1 := by omega
  have m61d : w6.heap.size < w6.heap.size + 1 := by omega
  have m62d : w6.heap.size < w6.heap.size + 1 + 1 := by omega
  go_region_held3 (fun w' => w'.cell? ⟨w.heap.size, 0, none⟩ = some (.int .u64 a0) ∧ w'.cell? ⟨w.heap.size, 1, none⟩ = some (.int .u64 a1) ∧ w'.cell? ⟨w.heap.size, 2, none⟩ = some (.int .u64 a2) ∧ w'.cell? ⟨w4.heap.size, 0, none⟩ = some (.int .u64 x0) ∧ w'.cell? ⟨w4.heap.size, 1, none⟩ = some (.int .u64 x1) ∧ w'.cell? ⟨w4.heap.size, 2, none⟩ = some (.int .u64 x2) ∧ w'.cell? ⟨w5.heap.size, 0, none⟩ = some (.int .u64 y0) ∧ w'.cell? ⟨w5.heap.size, 1, none⟩ = some (.int .u64 y1) ∧ w'.cell? ⟨w5.heap.size, 2, none⟩ = some (.int .u64 y2) ∧ w'.cell? ⟨w6.heap.size, 0, none⟩ = some (.int .u64 d0) ∧ w'.cell? ⟨w6.heap.size, 1, none⟩ = some (.int .u64 d1) ∧ w'.cell? ⟨w6.heap.size, 2, none⟩ = some (.int .u64 d2) ∧ w6.heap.size < w'.heap.size) (simp [go_sem, *])
    (first
      | (go_at_call 18; refine (neg_any a0 a1 a2 ka0 ka1 ka2 _).mono ?_; rintro e w7 ⟨n0, n1, n2, nc, rfl, hRn, hb7⟩; obtain ⟨hc7, hf7⟩ := bcell hb7; have hz7 : w6.heap.size < w7.heap.size := (by have := hb7.size; first | omega | (simp at this; omega)); have y7a : w.heap.size < w7.heap.size := (by omega); have y7b : w4.heap.size < w7.heap.size := (by omega); have y7c : w5.heap.size < w7.heap.size := (by omega); (try have y7z : w6.heap.size + 1 < w7.heap.size := (by have := hb7.size; simp at this; omega)); have y7a1 : w.heap.size < w7.heap.size + 1 := (by omega); have y7b1 : w4.heap.size < w7.heap.size + 1 := (by omega); have y7c1 : w5.heap.size < w7.heap.size + 1 := (by omega); have y7d1 : w6.heap.size < w7.heap.size + 1 := (by omega))
      | (go_at_call 13; refine (add_any a0 a1 a2 n0 n1 n2 ka0 ka1 ka2 hRn.1 hRn.2.1 hRn.2.2.1 _).mono ?_; rintro e w8 ⟨z0, z1, z2, zc, rfl, hRz, hb8⟩; obtain ⟨hc8, hf8⟩ := bcell hb8; have hz8 : w6.heap.size < w8.heap.size := (by have := hb8.size; first | omega | (simp at this; omega)); have y8a : w.heap.size < w8.heap.size := (by omega); have y8b : w4.heap.size < w8.heap.size := (by omega); have y8c : w5.heap.size < w8.heap.size := (by omega); (try have y8z : w7.heap.size < w8.heap.size := (by have := hb8.size; simp at this; omega)); (try have y8w : w6.heap.size + 1 < w8.heap.size := (by omega)); have y8a1 : w.heap.size < w8.heap.size + 1 := (by omega); have y8b1 : w4.heap.size < w8.heap.size + 1 := (by omega); have y8c1 : w5.heap.size < w8.heap.size + 1 := (by omega); have y8d1 : w6.heap.size < w8.heap.size + 1 := (by omega)))
  all_goals obtain ⟨e0, e1, e2⟩ := ring_xy a0 a1 a2 b0 b1 b2 c0 c1 c2 p0 p1 p2 q0 q1 q2 x0 x1 x2 y0 y1 y2 pc qc xc yc hRp hRq hRx hRy
  all_goals obtain ⟨e3, e4, e5⟩ := ring_back a0 a1 a2 b0 b1 b2 p0 p1 p2 d0 d1 d2 pc dc ka0 ka1 ka2 hRp hRd
  all_goals obtain ⟨e6, e7, e8⟩ := ring_zero a0 a1 a2 n0 n1 n2 z0 z1 z2 nc zc hRn hRz
  all_goals clear hRp hRq hRx hRy hRd hRn hRz
  all_goals subst e0 e1 e2 e3 e4 e5 e6 e7 e8
  all_goals go_wp2
  all_goals go_ret
  all_goals refine ⟨rfl, ?_⟩
  all_goals repeat' (first | exact hB6 | with_reducible refine Below.drew ?_ | with_reducible refine below_drewN ?_ _ | with_reducible refine Below.setCell ?_ ?_ _ | with_reducible refine Below.alloc ?_ ?_ _ | with_reducible refine Below.trans ?_ (hb8.mono ?_) | with_reducible refine Below.trans ?_ (hb7.mono ?_) | omega | (simp; done) | (simp; omega))
end Go.Proofs.YtlgadaojekcjeaaDoor
